import PyProof.Rows.All
import Wide.All
import OpenK.AllK
import Wide.FinOn
import PySem.Challenge.RW_floorcurves_k52_counts_by_own_sums
import Lean
import PyProof.EqAt
import PyProof.EqKinds
import PyProof.TupleCall
local macro_rules | `(tactic| omega) => `(tactic| lia)
set_option pp.maxSteps 400
set_option Elab.async false
set_option linter.all false
set_option maxRecDepth 100000
set_option maxHeartbeats 4000000
-- CHANGE: your row's module here, as the last of these rows
set_option Elab.async false
set_option linter.all false
set_option maxRecDepth 100000
/-! THE HAND LAYER, for ints, bools, texts, own classes, LISTS and tuples (index, slices, in, append, pop ..), calls, loops. Paste it whole ahead of your own text; what your proof does not reach may be deleted. -/
namespace L2
open PySem PySem.Spec PyProof.Rows

/-- a key: an int or a str -/
abbrev Key := Sum Int Str
def keyIs : Key → Value → Bool
  | .inl k, v => Value.isInt k v
  | .inr x, v => Value.isStrOf x v
def keyH (w : World) : Key → Int
  | .inl k => hashInt k
  | .inr x => hashStr w x
theorem keyIs_shape : ∀ {k : Key} {v : Value}, keyIs k v = true → (∃ i t, k = Sum.inl i ∧ v = Value.int i t) ∨ (∃ x t, k = Sum.inr x ∧ v = Value.str x t)
  | .inl i, v, h => by
    obtain ⟨t, e⟩ := Value.isInt_shape (k := i) (v := v) h
    exact .inl ⟨i, t, rfl, e⟩
  | .inr x, v, h => by
    obtain ⟨t, e⟩ := Value.isStrOf_shape (x := x) (v := v) h
    exact .inr ⟨x, t, rfl, e⟩
theorem keyIs_int (i : Int) (t : Tok) : keyIs (.inl i) (.int i t) = true := by simp [keyIs, Value.isInt]
theorem keyIs_str (x : Str) (t : Tok) : keyIs (.inr x) (.str x t) = true := by simp [keyIs, Value.isStrOf]
theorem key_ll (a b : Int) : decide ((Sum.inl a : Key) = Sum.inl b) = (a == b) := by
  by_cases e : a = b
  · subst e; simp
  · have h : ¬ (Sum.inl a : Key) = Sum.inl b := fun q => e (Sum.inl.inj q)
    rw [decide_eq_false h]
    exact (beq_eq_false_iff_ne.mpr e).symm
theorem key_rr (a b : Str) : decide ((Sum.inr a : Key) = Sum.inr b) = decide (a = b) := by
  by_cases e : a = b
  · subst e; simp
  · have h : ¬ (Sum.inr a : Key) = Sum.inr b := fun q => e (Sum.inr.inj q)
    rw [decide_eq_false h, decide_eq_false e]
theorem key_lr (a : Int) (b : Str) : decide ((Sum.inl a : Key) = Sum.inr b) = false := decide_eq_false (fun q => nomatch q)
theorem key_rl (a : Str) (b : Int) : decide ((Sum.inr a : Key) = Sum.inl b) = false := decide_eq_false (fun q => nomatch q)

def mixKind (prog : Program) (w : World) : PySem.KeyKind prog w Key where
  is := keyIs
  hash := keyH w
  inj := fun v a b ha hb => by
    rcases keyIs_shape ha with ⟨i, t, rfl, rfl⟩ | ⟨x, t, rfl, rfl⟩
    · rcases keyIs_shape hb with ⟨j, u, rfl, e⟩ | ⟨y, u, rfl, e⟩
      · injection e with e1 _; rw [e1]
      · exact nomatch e
    · rcases keyIs_shape hb with ⟨j, u, rfl, e⟩ | ⟨y, u, rfl, e⟩
      · exact nomatch e
      · injection e with e1 _; rw [e1]
  byValue := fun k v h => by
    rcases keyIs_shape h with ⟨i, t, rfl, rfl⟩ | ⟨x, t, rfl, rfl⟩ <;> rfl
  pyHash := fun hv h => by
    rcases keyIs_shape hv with ⟨i, t, rfl, rfl⟩ | ⟨x, t, rfl, rfl⟩
    · exact wpAny_pyHash_int h
    · exact wpAny_pyHash_str h
  eqBool := fun hu hv h => by
    rcases keyIs_shape hu with ⟨i, t, rfl, rfl⟩ | ⟨x, t, rfl, rfl⟩
    · rcases keyIs_shape hv with ⟨j, u, rfl, rfl⟩ | ⟨y, u, rfl, rfl⟩
      · rw [key_ll] at h; exact wpAny_eqBool_int h
      · rw [key_lr] at h; exact SeqAt.EqAt.int_str i t y u _ _ _ _ h
    · rcases keyIs_shape hv with ⟨j, u, rfl, rfl⟩ | ⟨y, u, rfl, rfl⟩
      · rw [key_rl] at h; exact SeqAt.EqAt.str_int x t j u _ _ _ _ h
      · rw [key_rr] at h; exact wpAny_eqBool_str h
  «strs» := fun k x t v h => by
    rcases keyIs_shape h with ⟨i, u, rfl, e⟩ | ⟨y, u, rfl, e⟩
    · exact nomatch e
    · injection e with e1 _
      subst e1
      cases v <;> rfl

theorem mixKind_int (prog : Program) (w : World) (i : Int) (t : Tok) : (mixKind prog w).is (.inl i) (.int i t) = true := keyIs_int i t
theorem mixKind_str (prog : Program) (w : World) (x : Str) (t : Tok) : (mixKind prog w).is (.inr x) (.str x t) = true := keyIs_str x t
end L2

namespace L2
open PySem PySem.Spec PyProof.Rows

/-- a value, without the heap -/
inductive V where
  | non | bl (b : Bool) | int (i : Int) | str (x : Str) | byt (b : Array UInt8) | flt (b : UInt64) | ref (a : Addr) | ty (n : String)
  deriving DecidableEq

def RelV : V → Value → Prop
  | .non, u => u = Value.none
  | .bl b, u => u = Value.bool b
  | .int i, u => ∃ t, u = Value.int i t
  | .str x, u => ∃ t, u = Value.str x t
  | .byt b, u => ∃ t, u = Value.bytes b t
  | .flt b, u => ∃ t, u = Value.float b t
  | .ref a, u => u = Value.ref a
  | .ty n, u => u = Value.type n

abbrev Vals : List V → List Value → Prop := Paired RelV
theorem Vals.length {xs : List V} {us : List Value} (r : Vals xs us) : xs.length = us.length := Paired.length r
theorem Vals.get : ∀ {xs : List V} {us : List Value} {i : Nat} {x : V}, Vals xs us → xs[i]? = some x → ∃ u, us[i]? = some u ∧ RelV x u := by
  intro xs us i x h e
  induction h generalizing i with
  | nil => simp at e
  | cons r t ih =>
    cases i with
    | zero => simp at e; subst e; exact ⟨_, rfl, r⟩
    | succ i => exact ih (i := i) (by simpa using e)
theorem Vals.set {x : V} {u : Value} (r : RelV x u) : ∀ {xs : List V} {us : List Value} (i : Nat), Vals xs us → Vals (xs.set i x) (us.set i u)
  | _, _, _, .nil => .nil
  | _, _, 0, .cons _ t => .cons r t
  | _, _, i + 1, .cons q t => .cons q (Vals.set r i t)
theorem Vals.append : ∀ {xs ys : List V} {us ws : List Value}, Vals xs us → Vals ys ws → Vals (xs ++ ys) (us ++ ws) := by
  intro xs ys us ws h s
  induction h with
  | nil => exact s
  | cons r t ih => exact .cons r ih
theorem Vals.take : ∀ {xs : List V} {us : List Value} (n : Nat), Vals xs us → Vals (xs.take n) (us.take n)
  | _, _, 0, _ => .nil
  | _, _, _ + 1, .nil => .nil
  | _, _, n + 1, .cons r t => .cons r (Vals.take n t)
theorem Vals.drop : ∀ {xs : List V} {us : List Value} (n : Nat), Vals xs us → Vals (xs.drop n) (us.drop n)
  | _, _, 0, r => r
  | _, _, _ + 1, .nil => .nil
  | _, _, n + 1, .cons _ t => Vals.drop n t
def RelO : Option V → Option Value → Prop
  | some v, some u => RelV v u
  | none, none => True
  | _, _ => False
def KV {κ : Type} : List (κ × V) → List (κ × Value) → Prop := Paired fun (p : κ × V) (q : κ × Value) => p.1 = q.1 ∧ RelV p.2 q.2

/-- a key of a dict (00_mix): an int or a text -/
def kV : Key → V
  | .inl i => .int i
  | .inr x => .str x

/-- what stands at a tracked address -/
inductive HO where
  /-- a list -/
  | lst (xs : List V)
  /-- a tuple (never changes) -/
  | tup (xs : List V)
  /-- a dict whose keys are ints and texts; one whose keys are tuples of ints and texts (the empty one is both) -/
  | dK (kvs : List (Key × V)) | dT (kvs : List (List Key × V))
  /-- a set of ints: its members, its size -/
  | set (S : Int → Bool) (n : Nat)
  /-- an instance of the class at C, its dict at dx, its attributes -/
  | ins (C dx : Addr) (fs : List (Str × V))
  /-- the dict of the instance at x -/
  | own (x : Addr)
  /-- the dict of an exception -/
  | xd (fs : List (Str × V))
  /-- a bound method, f of x -/
  | met (f x : Addr)
  /-- a range object lo, lo + 1, .. below hi -/
  | rng (lo hi : Int)
  /-- a thing that is known to the object (the script; a dict while a loop walks it): read, never written while it is so -/
  | frz (o : Obj) (u : HO)
  /-- a code object's table -/
  | tbl (ps : Array Value)
  /-- any other thing, by what is true of its one object (a def of one's own: SetO a S n := HO.ext fun h => ..) -/
  | ext (φ : Heap → Prop)

abbrev Hp := Addr → Option HO
def upd (H : Hp) (a : Addr) (o : HO) : Hp := fun b => if b = a then some o else H b
theorem upd_same {H : Hp} {a : Addr} {o : HO} : upd H a o a = some o := by unfold upd; rw [if_pos rfl]
theorem upd_ne {H : Hp} {a b : Addr} {o : HO} (h : b ≠ a) : upd H a o b = H b := by unfold upd; rw [if_neg h]
/-- two objects of different content stand apart -/
theorem ne_of {H : Hp} {a b : Addr} {o u : HO} (h : H a = some o) (h' : H b = some u) (d : o ≠ u) : a ≠ b := by
  intro e; subst e; rw [h] at h'; exact d (Option.some.inj h')
theorem ne_of_none {H : Hp} {a b : Addr} {o : HO} (h : H a = some o) (h' : H b = none) : a ≠ b := by
  intro e; subst e; rw [h] at h'; cases h'

section
variable (P : Program) (w : World)
def ObjOk (H : Hp) (h : Heap) (a : Addr) : HO → Prop
  | .lst xs => xs.length ≤ sizeLine ∧ ∃ (its : List Value) (n : Nat), Vals xs its ∧ h.get? a = some { cls := .type "list", data := .seq its.toArray n }
  | .tup xs => xs.length ≤ sizeLine ∧ ∃ its : List Value, Vals xs its ∧ IsTup h a its.toArray
  | .dK kvs => kvs.length ≤ sizeLine ∧ (a == sysModules) = false ∧ ∃ vs, KV kvs vs ∧ h.DictOf (mixKind P w) a vs
  | .dT kvs => kvs.length ≤ sizeLine ∧ (a == sysModules) = false ∧ ∃ xs : List (List Key × Addr × Value),
      Paired (fun (p : List Key × V) (q : List Key × Addr × Value) => p.1 = q.1 ∧ H q.2.1 = some (.tup (p.1.map kV)) ∧ RelV p.2 q.2.2) kvs xs ∧
      ∃ o es ep, h.get? a = some o ∧ o.ExactDict ∧ o.data = .dict es ep ∧ es.toList = xs.map (entryOfKey (tupleKind (mixKind P w))) ∧ (xs.map (·.1)).Nodup
  | .set S n => h.SetOf (intKind P w) a S n
  | .ins C dx fs => H dx = some (.own a) ∧ fs.length ≤ 1000 ∧ dx ≠ a ∧ h.get? a = some (PySem.W.instObj C dx) ∧
      ∃ mA, h.Ns1 dx mA ∧ (∀ f, RelO (fs.lookup f) (mA f)) ∧ PySem.Within mA (fs.map (·.1))
  | .own _ => ∃ o, h.get? a = some o
  | .xd fs => ∃ mA, h.Ns1 a mA ∧ ∀ f, RelO (fs.lookup f) (mA f)
  | .rng lo hi => ∃ t u v, h.get? a = some { cls := .type "range", data := .fields #[.int lo t, .int hi u, .int 1 v] }
  | .frz o u => h.get? a = some o ∧ ObjOk H h a u
  | .tbl ps => h.get? a = some { cls := .none, data := .fields ps }
  | .met f x => h.get? a = some (PySem.W.methodObj (.ref f) (.ref x))
  | .ext φ => φ h ∧ (∃ o, h.get? a = some o) ∧ ∀ h1 h2 : Heap, φ h1 → (∀ o, h1.get? a = some o → h2.get? a = some o) → φ h2
/-- the abstract heap is held -/
def HOk (H : Hp) (h : Heap) : Prop := ∀ a o, H a = some o → ObjOk P w H h a o
end

section
variable {P : Program} {w : World} {H H' : Hp} {h h' : Heap} {a : Addr} {o : HO}
theorem ObjOk.lt (x : ObjOk P w H h a o) : a < h.objs.size := by
  cases o with
  | lst xs => obtain ⟨_, _, _, _, e⟩ := x; exact Heap.lt_size e
  | tup xs => obtain ⟨_, _, _, p⟩ := x; exact p.lt
  | dK kvs => obtain ⟨_, _, _, _, o, _, _, e, _⟩ := x; exact Heap.lt_size e
  | dT kvs => obtain ⟨_, _, _, _, o, _, _, e, _⟩ := x; exact Heap.lt_size e
  | set S n => obtain ⟨o, _, _, _, e, _⟩ := x; exact Heap.lt_size e
  | ins C dx fs => obtain ⟨_, _, _, e, _⟩ := x; exact Heap.lt_size e
  | own y => obtain ⟨_, e⟩ := x; exact Heap.lt_size e
  | xd fs => obtain ⟨_, ⟨_, _, _, e, _⟩, _⟩ := x; exact Heap.lt_size e
  | rng lo hi => obtain ⟨_, _, _, e⟩ := x; exact Heap.lt_size e
  | frz ob u => obtain ⟨e, _⟩ := x; exact Heap.lt_size e
  | tbl ps => exact Heap.lt_size (show h.get? a = some _ from x)
  | met f y => exact Heap.lt_size (show h.get? a = some _ from x)
  | ext φ => obtain ⟨_, ⟨_, e⟩, _⟩ := x; exact Heap.lt_size e
theorem Paired.mapP {α β : Type} {F G : α → β → Prop} : ∀ {l₁ : List α} {l₂ : List β}, Paired F l₁ l₂ → (∀ a b, F a b → G a b) → Paired G l₁ l₂ := by
  intro l₁ l₂ h f
  induction h with
  | nil => exact .nil
  | cons r t ih => exact .cons (f _ _ r) ih
/-- what an object's description leans on: its own object, its own dict, the tuples -/
theorem ObjOk.stay (x : ObjOk P w H h a o) (k : ∀ b u, (b = a ∨ H b = some (.own a)) → h.get? b = some u → h'.get? b = some u)
    (ho : ∀ b, H b = some (.own a) → H' b = some (.own a)) (ht : ∀ b xs, H b = some (.tup xs) → H' b = some (.tup xs)) : ObjOk P w H' h' a o := by
  induction o with
  | lst xs => obtain ⟨z, its, n, r, e⟩ := x; exact ⟨z, its, n, r, k _ _ (.inl rfl) e⟩
  | tup xs => obtain ⟨z, its, r, ob, e, c⟩ := x; exact ⟨z, its, r, ob, k _ _ (.inl rfl) e, c⟩
  | dK kvs => obtain ⟨z, y, vs, r, ob, es, ep, e, c⟩ := x; exact ⟨z, y, vs, r, ob, es, ep, k _ _ (.inl rfl) e, c⟩
  | dT kvs =>
    obtain ⟨z, y, xs, r, ob, es, ep, e, c⟩ := x
    exact ⟨z, y, xs, Paired.mapP r fun p q z => ⟨z.1, ht _ _ z.2.1, z.2.2⟩, ob, es, ep, k _ _ (.inl rfl) e, c⟩
  | set S n => obtain ⟨ob, es, ep, t, e, c⟩ := x; exact ⟨ob, es, ep, t, k _ _ (.inl rfl) e, c⟩
  | ins C dx fs =>
    obtain ⟨d, z, ne, e, mA, ⟨od, es, ep, e2, c⟩, r⟩ := x
    exact ⟨ho _ d, z, ne, k _ _ (.inl rfl) e, mA, ⟨od, es, ep, k _ _ (.inr d) e2, c⟩, r⟩
  | own y => obtain ⟨ob, e⟩ := x; exact ⟨ob, k _ _ (.inl rfl) e⟩
  | xd fs => obtain ⟨mA, ⟨od, es, ep, e, c⟩, r⟩ := x; exact ⟨mA, ⟨od, es, ep, k _ _ (.inl rfl) e, c⟩, r⟩
  | rng lo hi => obtain ⟨t, u, v, e⟩ := x; exact ⟨t, u, v, k _ _ (.inl rfl) e⟩
  | frz ob u ih => obtain ⟨e, q⟩ := x; exact ⟨k _ _ (.inl rfl) e, ih q⟩
  | tbl ps =>
    have e : h.get? a = some { cls := .none, data := .fields ps } := x
    show h'.get? a = some { cls := .none, data := .fields ps }
    exact k a _ (.inl rfl) e
  | met f y =>
    have e : h.get? a = some (PySem.W.methodObj (.ref f) (.ref y)) := x
    show h'.get? a = some (PySem.W.methodObj (.ref f) (.ref y))
    exact k a _ (.inl rfl) e
  | ext φ => obtain ⟨p, ⟨o, e⟩, st⟩ := x; exact ⟨st _ _ p fun o q => k _ _ (.inl rfl) q, ⟨o, k _ _ (.inl rfl) e⟩, st⟩
theorem HOk.lt (x : HOk P w H h) (e : H a = some o) : a < h.objs.size := (x a o e).lt
theorem HOk.fresh (x : HOk P w H h) (e : h.objs.size ≤ a) : H a = none := by
  cases q : H a with
  | none => rfl
  | some u => exact absurd (Nat.lt_of_lt_of_le (x.lt q) e) (Nat.lt_irrefl _)
/-- every object of the heap is kept -/
theorem HOk.kept (x : HOk P w H h) (k : ∀ b u, h.get? b = some u → h'.get? b = some u) : HOk P w H h' := fun a o e =>
  (x a o e).stay (fun b u _ q => k b u q) (fun _ q => q) fun _ _ q => q
/-- a new object is laid and tracked -/
theorem HOk.laid (x : HOk P w H h) (k : ∀ b u, h.get? b = some u → h'.get? b = some u) (hp : h.objs.size ≤ a) (new : ObjOk P w (upd H a o) h' a o) : HOk P w (upd H a o) h' := fun b u e => by
  have hn := x.fresh hp
  by_cases hb : b = a
  · subst hb; rw [upd_same] at e; cases e; exact new
  · rw [upd_ne hb] at e
    exact (x b u e).stay (fun c v _ q => k c v q) (fun c q => by rw [upd_ne (ne_of_none q hn)]; exact q) fun c xs q => by rw [upd_ne (ne_of_none q hn)]; exact q
end

/-- what may be read as u: it is u, or a known u -/
def Rd (H : Hp) (a : Addr) (u : HO) : Prop := H a = some u ∨ ∃ o, H a = some (.frz o u)
theorem Rd.ok {P : Program} {w : World} {H : Hp} {h : Heap} {a : Addr} {u : HO} (r : Rd H a u) (x : HOk P w H h) : ObjOk P w H h a u := by
  rcases r with r | ⟨o, r⟩
  · exact x a u r
  · obtain ⟨_, q⟩ := x a _ r
    exact q
/-- what may be written -/
def Mut : Option HO → Prop
  | some (.lst _) => True
  | some (.dK _) => True
  | some (.dT _) => True
  | some (.set _ _) => True
  | some (.ins _ _ _) => True
  | some (.ext _) => True
  | _ => False
section
variable {P : Program} {w : World} {H : Hp} {h h' : Heap} {x e : Addr} {o' : HO}
/-- the object at e is changed: x itself, or the dict of the instance x -/
theorem HOk.write (ok : HOk P w H h) (mu : Mut (H x)) (he : e = x ∨ H e = some (.own x)) (k : ∀ b u, b ≠ e → h.get? b = some u → h'.get? b = some u) (heo : ∃ u, h'.get? e = some u)
    (new : ObjOk P w (upd H x o') h' x o') : HOk P w (upd H x o') h' := fun b u q => by
  have nown : ∀ c y, H c = some (.own y) → c ≠ x := fun c y r z => by subst z; rw [r] at mu; exact mu
  have ntup : ∀ c xs, H c = some (.tup xs) → c ≠ x := fun c xs r z => by subst z; rw [r] at mu; exact mu
  by_cases hb : b = x
  · subst hb; rw [upd_same] at q; cases q; exact new
  · rw [upd_ne hb] at q
    by_cases hbe : b = e
    · have q' : H b = some (.own x) := by
        rcases he with z | z
        · exact absurd (hbe.trans z) hb
        · rw [hbe]; exact z
      rw [q] at q'; cases q'
      obtain ⟨v, hv⟩ := heo
      exact ⟨v, by rw [hbe]; exact hv⟩
    · refine (ok b u q).stay (fun c v hc r => k c v ?_ r) (fun c r => by rw [upd_ne (nown c b r)]; exact r) fun c xs r => by rw [upd_ne (ntup c xs r)]; exact r
      rcases hc with rfl | hc
      · exact hbe
      · rintro rfl
        rcases he with z | z
        · exact nown c b hc z
        · rw [hc] at z; cases z; exact hb rfl
end

/-! ### kept unless tracked; of the frames at fs (the callers') the slots may change (an exception that passes writes there); of the records at ex (iterators) nothing is said -/
structure Un (fs ex : List Addr) (H H' : Hp) (h h' : Heap) : Prop where
  keep : ∀ b o, h.get? b = some o → H b = none → b ∉ fs → b ∉ ex → h'.get? b = some o
  slot : ∀ b o, h.get? b = some o → H b = none → b ∈ fs → b ∉ ex → ∃ sl, h'.get? b = some { o with slots := sl }
  free : ∀ b o, h.get? b = some o → H b = none → b ∉ ex → H' b = none
  there : ∀ b o, h.get? b = some o → b ∉ ex → ∃ o', h'.get? b = some o'
  tups : ∀ b xs, H b = some (.tup xs) → H' b = some (.tup xs)
  frzs : ∀ b o u, H b = some (.frz o u) → H' b = some (.frz o u)
  tbls : ∀ b ps, H b = some (.tbl ps) → ∃ more, H' b = some (.tbl (ps ++ more))
section
variable {fs fs' ex ex' : List Addr} {H H1 H2 : Hp} {h h1 h2 h' : Heap} {a x e : Addr} {o : HO}
theorem Un.any (u : Un fs ex H H1 h h1) {b : Addr} {ob : Obj} (q : h.get? b = some ob) (n : H b = none) (hx : b ∉ ex) : ∃ sl, h1.get? b = some { ob with slots := sl } := by
  by_cases hb : b ∈ fs
  · exact u.slot b ob q n hb hx
  · exact ⟨ob.slots, u.keep b ob q n hb hx⟩
theorem Un.kept (k : ∀ b u, h.get? b = some u → h'.get? b = some u) : Un fs ex H H h h' :=
  ⟨fun b ob q _ _ _ => k b ob q, fun b ob q _ _ _ => ⟨ob.slots, k b ob q⟩, fun _ _ _ n _ => n, fun b ob q _ => ⟨ob, k b ob q⟩, fun _ _ q => q, fun _ _ _ q => q, fun _ ps q => ⟨#[], by rw [q]; simp⟩⟩
theorem Un.refl : Un fs ex H H h h := Un.kept fun _ _ q => q
theorem Un.laid (k : ∀ b u, h.get? b = some u → h'.get? b = some u) (hp : h.objs.size ≤ a) (hn : H a = none) : Un fs ex H (upd H a o) h h' where
  keep := fun b u q _ _ _ => k b u q
  slot := fun b u q _ _ _ => ⟨u.slots, k b u q⟩
  free := fun b u q n _ => by rw [upd_ne (Nat.ne_of_lt (Nat.lt_of_lt_of_le (Heap.lt_size q) hp))]; exact n
  there := fun b u q _ => ⟨u, k b u q⟩
  tups := fun b xs q => by rw [upd_ne (ne_of_none q hn)]; exact q
  frzs := fun b u xs q => by rw [upd_ne (ne_of_none q hn)]; exact q
  tbls := fun b ps q => ⟨#[], by rw [upd_ne (ne_of_none q hn), q]; simp⟩
theorem Un.write (mu : Mut (H x)) (he : e = x ∨ H e = some (.own x)) (k : ∀ b u, b ≠ e → h.get? b = some u → h'.get? b = some u) (heo : ∃ u, h'.get? e = some u) : Un fs ex H (upd H x o) h h' := by
  have hx : ∀ b, H b = none → b ≠ x := fun b n z => by subst z; rw [n] at mu; exact mu
  have hb : ∀ b, H b = none → b ≠ e := fun b n z => by
    subst z
    rcases he with r | r
    · exact hx b n r
    · rw [n] at r; cases r
  have hm : ∀ b u, H b = some u → ¬ Mut (some u) → b ≠ x := fun b u q nm z => by subst z; rw [q] at mu; exact nm mu
  refine ⟨fun b u q n _ _ => k b u (hb b n) q, fun b u q n _ _ => ⟨u.slots, k b u (hb b n) q⟩, fun b u q n _ => by rw [upd_ne (hx b n)]; exact n, fun b u q _ => ?_,
    fun b xs q => by rw [upd_ne (hm b _ q fun z => z)]; exact q, fun b u xs q => by rw [upd_ne (hm b _ q fun z => z)]; exact q, fun b ps q => ⟨#[], by rw [upd_ne (hm b _ q fun z => z), q]; simp⟩⟩
  by_cases hbe : b = e
  · subst hbe; exact heo
  · exact ⟨u, k b u hbe q⟩
end

/-! ### the heap without what is tracked -/
def trk (h : Heap) (H : Hp) : List Addr := (List.range h.objs.size).filter fun a => (H a).isSome
def hidT (h : Heap) (H : Hp) : Heap := PySem.W.hideAll h (trk h H)
theorem hidT_size (h : Heap) (H : Hp) : (hidT h H).objs.size = h.objs.size := PySem.W.hideAll_size _ _
theorem hidT_get {h : Heap} {H : Hp} {b : Addr} {o : Obj} (e : h.get? b = some o) (n : H b = none) : (hidT h H).get? b = some o :=
  PySem.W.hideAll_get _ e fun hm => by
    have q : (H b).isSome = true := (List.mem_filter.mp hm).2
    rw [n] at q; simp at q
theorem of_hidT {h : Heap} {H : Hp} {b : Addr} {o : Obj} (e : (hidT h H).get? b = some o) : h.get? b = some o ∧ H b = none := by
  have e' : h.get? b = some o := PySem.W.of_hideAll (trk h H) e
  refine ⟨e', ?_⟩
  cases q : H b with
  | none => rfl
  | some x =>
    have hm : b ∈ trk h H := List.mem_filter.mpr ⟨List.mem_range.mpr (Heap.lt_size e'), by simp [q]⟩
    have z : (hidT h H).get? b = none := PySem.W.hideAll_none (trk h H) hm
    rw [z] at e; cases e

/-! ### OpenK's ledger, filled with every new object but one -/
def allNews (g h : Heap) (L : Addr) : List (Addr × Obj) := (List.range h.objs.size).filterMap fun a => if a = L ∨ (g.get? a).isSome = true then none else (h.get? a).map fun o => (a, o)
def rest (g h : Heap) (L d : Addr) : List (Addr × Obj) := (allNews g h L).filter fun p => decide (p.1 ≠ d)
end L2

namespace L2
open PySem PySem.Spec PyProof.Rows

/-- the module's facts, over the base: the heap at the law's entry without what is tracked there -/
structure Mod (K : PySem.W.Frag) (mg : Str → Option Value) (base : Heap) : Prop where
  kin : K.In base
  glob : base.Ns mainGlobals mg
  blt : ∃ mb, base.Ns builtinsNs mb ∧ ∀ x : Str, x ≠ "__name__" → mb x = bootBuiltins x
  nolimit : base.NoLimit

/-- the context: a def's body (or a comprehension's block) running. base: fixed through the whole law; s₀, H₀: the entry; outer: the frames whose slots others may change (a def's callers); stack: all frames that run;
   ex: iterators that were made ahead of the entry and are walked here (a comprehension's); fn: the names whose cells were made at the entry (a def: all; a comprehension's block: its own); calm: not within an except suite; pn: pins that every state bears; xe: what is wanted of an exception that leaves the code -/
structure Cx where
  prog : Program
  w : World
  K : PySem.W.Frag
  mg : Str → Option Value
  base : Heap
  A : Around
  N : List Str
  s₀ : Shared
  H₀ : Hp
  env : Env
  outer : List Env
  stack : List Env
  ex : List Addr
  fn : Str → Bool
  calm : Bool
  pn : List (Addr × Obj)
  xe : Value → Shared → Prop
/-- the callers' frames -/
def frs (l : List Env) : List Addr := l.filterMap (·.frame)
abbrev Cx.fs (X : Cx) : List Addr := frs X.outer

def Vis (sc : Scope) (x : Str) : Prop := sc.names.lookup x = some .local ∨ sc.names.lookup x = some .cell ∨ sc.names.lookup x = some .free
def Loc (sc : Scope) (x : Str) : Prop := sc.names.lookup x = some .local ∨ sc.names.lookup x = some .cell
def Look (env : Env) (h : Heap) (m : Str → Option Value) (x : Str) (u : Value) : Prop :=
  (env.kindOf x = some .local ∧ m x = some u) ∨ ((env.kindOf x = some .cell ∨ env.kindOf x = some .free) ∧ ∃ c, env.cells.lookup x = some c ∧ h.IsCell c (some u))

structure Cx.Ok (X : Cx) : Prop where
  mod : Mod X.K X.mg X.base
  kind : X.env.scope.kind = .function
  glob : X.env.globals = mainGlobals
  blt : X.env.builtins = builtinsNs
  above : X.s₀.heap.objs.size ≤ X.env.locals
  inj : ∀ x y c, X.env.cells.lookup x = some c → X.env.cells.lookup y = some c → x = y
  has : ∀ x, (X.env.kindOf x = some .cell ∨ X.env.kindOf x = some .free) → ∃ c, X.env.cells.lookup x = some c
  cab : ∀ x c, X.fn x = true → X.env.cells.lookup x = some c → X.s₀.heap.objs.size ≤ c
  hd : X.calm = true → X.A.handled = none
  frames : X.A.frames = some X.stack
  stk : X.stack = X.outer ∨ (X.stack = X.env :: X.outer ∧ X.env.frame = some X.env.locals)
  exf : ∀ b ∈ X.ex, b ≠ X.env.locals ∧ ∀ x c, X.env.cells.lookup x = some c → c ≠ b
  bs : ∀ b o, X.base.get? b = some o → X.s₀.heap.get? b = some o ∧ X.H₀ b = none
  bsz : X.base.objs.size ≤ X.s₀.heap.objs.size
  noex : ∀ b o, X.base.get? b = some o → b ∉ X.ex
  exfs : ∀ b ∈ X.ex, b ∉ X.fs
  funs : X.s₀.heap.FunFrames X.base X.outer
  frf : ∀ b ∈ X.fs, X.H₀ b = none

structure Inv (X : Cx) (pins : List (Addr × Obj)) (σ : List (Option V)) (H : Hp) (s : Shared) : Prop where
  ok : X.Ok
  os : s.os = X.s₀.os
  bare : AllBare s.gens
  base : Un X.fs X.ex X.H₀ H X.s₀.heap s.heap
  loc : ∃ m, s.heap.Ns X.env.locals m ∧ ∀ (i : Nat) (x : Str) (v : V), X.N[i]? = some x → σ[i]? = some (some v) → Vis X.env.scope x → ∃ u, RelV v u ∧ Look X.env s.heap m x u
  cell : ∀ x c, X.env.cells.lookup x = some c → ∃ v, s.heap.IsCell c v
  free : H X.env.locals = none
  freeC : ∀ x c, X.env.cells.lookup x = some c → H c = none
  pin : ∀ p ∈ X.pn ++ pins, s.heap.get? p.1 = some p.2 ∧ H p.1 = none ∧ p.1 ≠ X.env.locals ∧ p.1 ∉ X.fs ∧ ∀ v, p.2.data ≠ .cell v
  hok : HOk X.prog X.w H s.heap
  len : σ.length = X.N.length

section
variable {X : Cx} {pins : List (Addr × Obj)} {σ : List (Option V)} {H H' : Hp} {s : Shared} {h' : Heap}

theorem Cx.Ok.nofr (ok : X.Ok) {b : Addr} {o : Obj} (e : X.base.get? b = some o) : b ∉ X.fs := fun hb => by
  have := (ok.funs.mem hb).1
  rw [e] at this; cases this
theorem Inv.bs (I : Inv X pins σ H s) : ∀ b o, X.base.get? b = some o → s.heap.get? b = some o ∧ H b = none := fun b o e =>
  ⟨I.base.keep b o (I.ok.bs b o e).1 (I.ok.bs b o e).2 (I.ok.nofr e) (I.ok.noex b o e), I.base.free b o (I.ok.bs b o e).1 (I.ok.bs b o e).2 (I.ok.noex b o e)⟩
theorem Inv.bk (I : Inv X pins σ H s) : ∀ b o, X.base.get? b = some o → s.heap.get? b = some o := fun b o e => (I.bs b o e).1
theorem Inv.mod (I : Inv X pins σ H s) : Mod X.K X.mg X.base := I.ok.mod
theorem Inv.kIn (I : Inv X pins σ H s) : X.K.In s.heap := I.ok.mod.kin.keeps I.bk
theorem Inv.lt (I : Inv X pins σ H s) : X.env.locals < s.heap.objs.size := let ⟨_, hn, _⟩ := I.loc; hn.lt
theorem Inv.sz (I : Inv X pins σ H s) : X.s₀.heap.objs.size ≤ s.heap.objs.size := Nat.le_trans I.ok.above (Nat.le_of_lt I.lt)
theorem Inv.nofs (I : Inv X pins σ H s) {a : Addr} (h : s.heap.objs.size ≤ a) : a ∉ X.fs := fun hb => by
  obtain ⟨_, o, ho, _⟩ := I.ok.funs.mem hb
  exact absurd (Nat.lt_of_lt_of_le (Heap.lt_size ho) (Nat.le_trans I.sz h)) (Nat.lt_irrefl _)
theorem Inv.cne (I : Inv X pins σ H s) : ∀ x c, X.env.cells.lookup x = some c → c ≠ X.env.locals := fun x c e z => by
  obtain ⟨v, o, ho, hd⟩ := I.cell x c e
  obtain ⟨m, ⟨o', es, ep, ho', hd', _⟩, _⟩ := I.loc
  rw [z, ho'] at ho; cases ho; rw [hd'] at hd; cases hd
theorem Inv.funs (I : Inv X pins σ H s) : s.heap.FunFrames X.base X.outer := by
  have all : ∀ (l : List Env), (∀ b ∈ frs l, b ∈ X.fs) → X.s₀.heap.FunFrames X.base l → s.heap.FunFrames X.base l := by
    intro l
    induction l with
    | nil => intro _ _; trivial
    | cons env r ih =>
      intro hs hl
      obtain ⟨hk, ⟨L, o, hf, hn, ho, hd⟩, hr⟩ := hl
      have hL : L ∈ X.fs := hs L (by unfold frs; rw [List.filterMap_cons, hf]; exact List.mem_cons_self)
      obtain ⟨sl, e⟩ := I.base.slot L o ho (I.ok.frf L hL) hL fun z => I.ok.exfs L z hL
      exact ⟨hk, ⟨L, _, hf, hn, e, hd⟩, ih (fun b hb => hs b (by unfold frs; rw [List.filterMap_cons, hf]; exact List.mem_cons_of_mem _ hb)) hr⟩
  exact all X.outer (fun _ hb => hb) I.ok.funs

/-- the frames that run, for a call -/
theorem Inv.stack (I : Inv X pins σ H s) : s.heap.FunFrames X.base X.stack := by
  rcases I.ok.stk with e | ⟨e, hf⟩
  · rw [e]; exact I.funs
  · rw [e]
    obtain ⟨m, hn, _⟩ := I.loc
    refine .cons (by rw [I.ok.kind]; decide) hf hn ?_ I.funs
    exact Heap.get?_none_of_le (Nat.le_trans I.ok.bsz I.ok.above)
theorem Inv.stkSub (I : Inv X pins σ H s) : ∀ b ∈ frs X.stack, b ∈ X.env.locals :: X.fs := fun b hb => by
  rcases I.ok.stk with e | ⟨e, hf⟩
  · rw [e] at hb; exact List.mem_cons_of_mem _ hb
  · rw [e] at hb
    unfold frs at hb
    rw [List.filterMap_cons, hf] at hb
    exact hb
theorem Inv.stkFree (I : Inv X pins σ H s) : ∀ b ∈ frs X.stack, H b = none := fun b hb => by
  rcases List.mem_cons.mp (I.stkSub b hb) with e | hb
  · rw [e]; exact I.free
  · obtain ⟨_, o, ho, _⟩ := I.ok.funs.mem hb
    exact I.base.free b o ho (I.ok.frf b hb) fun z => I.ok.exfs b z hb

/-- THE STEP: the untracked objects but the frame and the records at ch are kept (the callers' frames up to slots), the frame's map is kept, the new abstract heap is held -/
theorem Inv.step {g' : Array GenState} {t' : Nat} {d' : Drawn} {ch : List Addr} (I : Inv X pins σ H s)
    (hch : ∀ b ∈ ch, (b ∈ X.ex ∨ X.s₀.heap.objs.size ≤ b) ∧ b ≠ X.env.locals ∧ (∀ x c, X.env.cells.lookup x = some c → c ≠ b) ∧ ∀ p ∈ X.pn ++ pins, p.1 ≠ b)
    (keep : ∀ b o, b ≠ X.env.locals → b ∉ X.fs → b ∉ ch → s.heap.get? b = some o → H b = none → h'.get? b = some o)
    (slot : ∀ b o, b ≠ X.env.locals → b ∈ X.fs → b ∉ ch → s.heap.get? b = some o → H b = none → ∃ sl, h'.get? b = some { o with slots := sl }) (free : ∀ b o, b ∉ ch → s.heap.get? b = some o → H b = none → H' b = none)
    (there : ∀ b o, b ∉ ch → s.heap.get? b = some o → ∃ o', h'.get? b = some o')
    (tups : ∀ b xs, H b = some (.tup xs) → H' b = some (.tup xs)) (frzs : ∀ b o u, H b = some (.frz o u) → H' b = some (.frz o u)) (tbls : ∀ b ps, H b = some (.tbl ps) → ∃ more, H' b = some (.tbl (ps ++ more)))
    (ns : ∀ m, s.heap.Ns X.env.locals m → h'.Ns X.env.locals m) (hok : HOk X.prog X.w H' h') (hg : AllBare g') :
    Inv X pins σ H' { s with heap := h', gens := g', drawn := d', toks := t' } := by
  have neL : ∀ b o, X.s₀.heap.get? b = some o → b ≠ X.env.locals := fun b o e => Nat.ne_of_lt (Nat.lt_of_lt_of_le (Heap.lt_size e) I.ok.above)
  have neC : ∀ b o, X.s₀.heap.get? b = some o → b ∉ X.ex → b ∉ ch := fun b o e hx hb => by
    rcases (hch b hb).1 with z | z
    · exact hx z
    · exact absurd (Nat.lt_of_lt_of_le (Heap.lt_size e) z) (Nat.lt_irrefl _)
  have cellK : ∀ x c, X.env.cells.lookup x = some c → ∀ v, s.heap.IsCell c v → h'.IsCell c v := fun x c e v ⟨o, ho, hd⟩ => by
    have nch : c ∉ ch := fun z => (hch c z).2.2.1 x c e rfl
    by_cases hc : c ∈ X.fs
    · obtain ⟨sl, q⟩ := slot c o (I.cne x c e) hc nch ho (I.freeC x c e)
      exact ⟨_, q, hd⟩
    · exact ⟨o, keep c o (I.cne x c e) hc nch ho (I.freeC x c e), hd⟩
  refine ⟨I.ok, I.os, hg, ⟨fun b o e n hb hx => ?_, fun b o e n hb hx => ?_, fun b o e n hx => ?_, fun b o e hx => ?_, fun b xs e => tups b xs (I.base.tups b xs e), fun b o xs e => frzs b o xs (I.base.frzs b o xs e), fun b ps e => ?_⟩, ?_, fun x c e => ?_, ?_, fun x c e => ?_, fun p hp => ?_, hok, I.len⟩
  · exact keep b o (neL b o e) hb (neC b o e hx) (I.base.keep b o e n hb hx) (I.base.free b o e n hx)
  · obtain ⟨sl, e1⟩ := I.base.slot b o e n hb hx
    obtain ⟨sl', e2⟩ := slot b _ (neL b o e) hb (neC b o e hx) e1 (I.base.free b o e n hx)
    exact ⟨sl', e2⟩
  · obtain ⟨o', e1⟩ := I.base.there b o e hx
    exact free b o' (neC b o e hx) e1 (I.base.free b o e n hx)
  · obtain ⟨o', e1⟩ := I.base.there b o e hx
    exact there b o' (neC b o e hx) e1
  · obtain ⟨m1, e1⟩ := I.base.tbls b ps e
    obtain ⟨m2, e2⟩ := tbls b _ e1
    exact ⟨m1 ++ m2, by rw [e2, Array.append_assoc]⟩
  · obtain ⟨m, hn, hl⟩ := I.loc
    refine ⟨m, ns m hn, fun i x v e1 e2 e3 => ?_⟩
    obtain ⟨u, r, l⟩ := hl i x v e1 e2 e3
    refine ⟨u, r, ?_⟩
    rcases l with l | ⟨k, c, e, z⟩
    · exact .inl l
    · exact .inr ⟨k, c, e, cellK x c e _ z⟩
  · obtain ⟨v, z⟩ := I.cell x c e
    exact ⟨v, cellK x c e v z⟩
  · obtain ⟨m, ⟨o, _, _, ho, _⟩, _⟩ := I.loc
    exact free _ o (fun z => (hch _ z).2.1 rfl) ho I.free
  · obtain ⟨v, o, ho, hd⟩ := I.cell x c e
    exact free c o (fun z => (hch c z).2.2.1 x c e rfl) ho (I.freeC x c e)
  · obtain ⟨e, n, ne, nf, d⟩ := I.pin p hp
    have nch : p.1 ∉ ch := fun z => (hch p.1 z).2.2.2 p hp rfl
    exact ⟨keep p.1 p.2 ne nf nch e n, free p.1 p.2 nch e n, ne, nf, d⟩
/-- .. where the frame's own object is kept too -/
theorem Inv.un {t' : Nat} (I : Inv X pins σ H s) (u : Un X.fs [] H H' s.heap h') (hok : HOk X.prog X.w H' h') : Inv X pins σ H' { s with heap := h', toks := t' } := by
  obtain ⟨m, ⟨o, es, ep, ho, r⟩, _⟩ := id I.loc
  obtain ⟨sl, hL⟩ := u.any ho I.free (by simp)
  exact I.step (g' := s.gens) (d' := s.drawn) (ch := []) (fun _ z => nomatch z) (fun b o _ hb _ e n => u.keep b o e n hb (by simp)) (fun b o _ hb _ e n => u.slot b o e n hb (by simp)) (fun b o _ e n => u.free b o e n (by simp)) (fun b o _ e => u.there b o e (by simp)) u.tups u.frzs u.tbls (fun m' hm => by
    obtain ⟨o', es', ep', ho', r'⟩ := hm
    rw [ho] at ho'; cases ho'
    exact ⟨_, es', ep', hL, r'⟩) hok I.bare
/-- behind a call (or a comprehension's block): the slots of this frame may have changed too, the records at ch may have turned -/
theorem Inv.call {g' : Array GenState} {t' : Nat} {d' : Drawn} {ch : List Addr} (I : Inv X pins σ H s) (u : Un (frs X.stack) ch H H' s.heap h') (hok : HOk X.prog X.w H' h') (hg : AllBare g')
    (hch : ∀ b ∈ ch, (b ∈ X.ex ∨ X.s₀.heap.objs.size ≤ b) ∧ b ≠ X.env.locals ∧ (∀ x c, X.env.cells.lookup x = some c → c ≠ b) ∧ ∀ p ∈ X.pn ++ pins, p.1 ≠ b) :
    Inv X pins σ H' { s with heap := h', gens := g', drawn := d', toks := t' } := by
  obtain ⟨m, ⟨o, es, ep, ho, r⟩, _⟩ := id I.loc
  obtain ⟨sl, hL⟩ := u.any ho I.free fun z => (hch _ z).2.1 rfl
  exact I.step (ch := ch) hch (fun b o hL hb hc e n => u.keep b o e n (fun z => (List.mem_cons.mp (I.stkSub b z)).elim hL hb) hc) (fun b o _ _ hc e n => u.any e n hc) (fun b o hc e n => u.free b o e n hc) (fun b o hc e => u.there b o e hc) u.tups u.frzs u.tbls (fun m' hm => by
    obtain ⟨o', es', ep', ho', r'⟩ := hm
    rw [ho] at ho'; cases ho'
    exact ⟨_, es', ep', hL, r'⟩) hok hg
/-- an untracked record of ours (an iterator) has turned -/
theorem Inv.turned {t' : Nat} {it : Addr} (I : Inv X pins σ H s) (k : ∀ b o, b ≠ it → s.heap.get? b = some o → h'.get? b = some o) (hn : H it = none) (hL : it ≠ X.env.locals)
    (h1 : it ∈ X.ex ∨ X.s₀.heap.objs.size ≤ it) (h2 : ∀ x c, X.env.cells.lookup x = some c → c ≠ it) (h3 : ∀ p ∈ X.pn ++ pins, p.1 ≠ it) : Inv X pins σ H { s with heap := h', toks := t' } := by
  have nit : ∀ b u, H b = some u → b ≠ it := fun b u e z => by rw [z, hn] at e; cases e
  refine I.step (g' := s.gens) (d' := s.drawn) (ch := [it]) (fun b hb => ?_) (fun b o _ _ hc e _ => k b o (fun z => hc (by simp [z])) e) (fun b o _ _ hc e _ => ⟨o.slots, k b o (fun z => hc (by simp [z])) e⟩) (fun _ _ _ _ n => n)
    (fun b o hc e => ⟨o, k b o (fun z => hc (by simp [z])) e⟩) (fun _ _ e => e) (fun _ _ _ e => e) (fun b ps e => ⟨#[], by rw [e]; simp⟩) (fun m hm => ?_) (fun b u e => ?_) I.bare
  · have e : b = it := by simpa using hb
    subst e
    exact ⟨h1, hL, h2, h3⟩
  · obtain ⟨o, es, ep, ho, r⟩ := hm
    exact ⟨o, es, ep, k _ o (Ne.symm hL) ho, r⟩
  · refine (I.hok b u e).stay (fun c v hc q => k c v ?_ q) (fun _ q => q) fun _ _ q => q
    rcases hc with z | z
    · rw [z]; exact nit b u e
    · exact nit c _ z
theorem Inv.tok (I : Inv X pins σ H s) (t : Nat) : Inv X pins σ H { s with toks := t } := I.un (h' := s.heap) (t' := t) Un.refl I.hok
/-- all objects kept -/
theorem Inv.kept {t' : Nat} (I : Inv X pins σ H s) (k : ∀ b u, s.heap.get? b = some u → h'.get? b = some u) : Inv X pins σ H { s with heap := h', toks := t' } := I.un (Un.kept k) (I.hok.kept k)
/-- a new object laid and tracked -/
theorem Inv.laid {a : Addr} {o : HO} {t' : Nat} (I : Inv X pins σ H s) (k : ∀ b u, s.heap.get? b = some u → h'.get? b = some u) (hp : s.heap.objs.size ≤ a) (new : ObjOk X.prog X.w (upd H a o) h' a o) :
    Inv X pins σ (upd H a o) { s with heap := h', toks := t' } := I.un (Un.laid k hp (I.hok.fresh hp)) (I.hok.laid k hp new)
/-- an object written -/
theorem Inv.write {x e : Addr} {o : HO} {t' : Nat} (I : Inv X pins σ H s) (mu : Mut (H x)) (he : e = x ∨ H e = some (.own x)) (k : ∀ b u, b ≠ e → s.heap.get? b = some u → h'.get? b = some u) (heo : ∃ u, h'.get? e = some u)
    (new : ObjOk X.prog X.w (upd H x o) h' x o) : Inv X pins σ (upd H x o) { s with heap := h', toks := t' } := I.un (Un.write mu he k heo) (I.hok.write mu he k heo new)
/-- forgetting slots, pins -/
theorem Inv.weak {σ' : List (Option V)} (I : Inv X pins σ H s) (hl : σ'.length = σ.length) (w : ∀ (i : Nat) v, σ'[i]? = some (some v) → σ[i]? = some (some v)) : Inv X pins σ' H s :=
  ⟨I.ok, I.os, I.bare, I.base, let ⟨m, hn, hl'⟩ := I.loc; ⟨m, hn, fun i x v e1 e2 e3 => hl' i x v e1 (w i v e2) e3⟩, I.cell, I.free, I.freeC, I.pin, I.hok, hl.trans I.len⟩
theorem Inv.pins_of {pins' : List (Addr × Obj)} (I : Inv X pins σ H s) (h : ∀ p ∈ pins', s.heap.get? p.1 = some p.2 ∧ H p.1 = none ∧ p.1 ≠ X.env.locals ∧ p.1 ∉ X.fs ∧ ∀ v, p.2.data ≠ .cell v) : Inv X pins' σ H s :=
  ⟨I.ok, I.os, I.bare, I.base, I.loc, I.cell, I.free, I.freeC, fun p hp => (List.mem_append.mp hp).elim (fun z => I.pin p (List.mem_append_left _ z)) (h p), I.hok, I.len⟩

theorem nodup_ix {N : List Str} (hN : N.Nodup) {i j : Nat} {x : Str} (a : N[i]? = some x) (b : N[j]? = some x) : i = j := by
  obtain ⟨h1, e1⟩ := List.getElem?_eq_some_iff.mp a
  obtain ⟨h2, e2⟩ := List.getElem?_eq_some_iff.mp b
  exact (List.getElem_inj hN).mp (e1.trans e2.symm)

/-- a name is stored; what changed -/
theorem store_ok2 {M : Model} {A : Around} {E : Value → Shared → Prop} {i : Nat} {x : Str} {v : V} {u : Value} {Q : Unit → Shared → Prop} (I : Inv X pins σ H s) (hN : X.N.Nodup) (hi : X.N[i]? = some x) (hx : Loc X.env.scope x) (r : RelV v u)
    (h : ∀ s', Inv X pins (σ.set i (some v)) H s' → (∃ a, Heap.SameBut a s.heap s'.heap ∧ (a = X.env.locals ∨ X.env.cells.lookup x = some a)) → Q () s') (hf : X.fn x = true ∨ X.env.scope.names.lookup x = some .local := by first | exact .inl rfl | exact .inr rfl | assumption) : wpAny M A (storeName X.env x u) Q E s := by
  obtain ⟨m, hn, hl⟩ := id I.loc
  have hcls : (X.env.scope.kind == .class || (X.env.scope.kind == .module && X.env.locals != X.env.globals)) = false := by rw [I.ok.kind]; rfl
  have hiσ : i < σ.length := by rw [I.len]; exact (List.getElem?_eq_some_iff.mp hi).1
  have cne := I.cne
  have tracked : ∀ {a : Addr} {h' : Heap}, (∃ o, s.heap.get? a = some o ∧ H a = none) → Heap.SameBut a s.heap h' → HOk X.prog X.w H h' := fun {a h'} ha hs b ob e => by
    obtain ⟨_, _, hfree⟩ := ha
    refine (I.hok b ob e).stay (fun c w' hc q => (hs.2 c ?_).trans q) (fun _ q => q) fun _ _ q => q
    rintro rfl
    rcases hc with rfl | hc
    · rw [hfree] at e; cases e
    · rw [hfree] at hc; cases hc
  rcases hx with hk | hk
  · refine wpAny_storeName_local hk hn (fun h' hn' hs => ?_) hcls
    obtain ⟨oL, _, _, hoL, _⟩ := id hn
    refine h _ ⟨I.ok, I.os, I.bare, ⟨fun b o e n hb hx => ?_, fun b o e n hb hx => ?_, I.base.free, fun b o e hx => ?_, I.base.tups, I.base.frzs, I.base.tbls⟩, ⟨_, hn', fun j y v' e1 e2 e3 => ?_⟩, fun y c e => ?_, I.free, I.freeC, fun p hp => ?_, tracked ⟨oL, hoL, I.free⟩ hs, by simpa using I.len⟩ ⟨_, hs, .inl rfl⟩
    · exact (hs.2 b (Nat.ne_of_lt (Nat.lt_of_lt_of_le (Heap.lt_size e) I.ok.above))).trans (I.base.keep b o e n hb hx)
    · obtain ⟨sl, e1⟩ := I.base.slot b o e n hb hx
      exact ⟨sl, (hs.2 b (Nat.ne_of_lt (Nat.lt_of_lt_of_le (Heap.lt_size e) I.ok.above))).trans e1⟩
    · obtain ⟨o', e1⟩ := I.base.there b o e hx
      exact ⟨o', (hs.2 b (Nat.ne_of_lt (Nat.lt_of_lt_of_le (Heap.lt_size e) I.ok.above))).trans e1⟩
    · by_cases hj : j = i
      · subst hj
        rw [hi] at e1; cases e1
        rw [List.getElem?_set_self hiσ] at e2
        cases e2
        exact ⟨u, r, .inl ⟨hk, by simp⟩⟩
      · rw [List.getElem?_set_ne (Ne.symm hj)] at e2
        obtain ⟨u', r', q⟩ := hl j y v' e1 e2 e3
        refine ⟨u', r', ?_⟩
        rcases q with ⟨k, e⟩ | ⟨k, c, e, z⟩
        · refine .inl ⟨k, ?_⟩
          have : y ≠ x := fun e => hj (nodup_ix hN e1 (e ▸ hi))
          simp [this, e]
        · exact .inr ⟨k, c, e, z.sameBut hs (cne y c e)⟩
    · obtain ⟨w', z⟩ := I.cell y c e
      exact ⟨w', z.sameBut hs (cne y c e)⟩
    · obtain ⟨e, n, ne, nf, d⟩ := I.pin p hp
      exact ⟨(hs.2 p.1 ne).trans e, n, ne, nf, d⟩
  · have hfn : X.fn x = true := by
      rcases hf with z | z
      · exact z
      · rw [z] at hk; cases hk
    obtain ⟨c, hc⟩ := I.ok.has x (.inl hk)
    obtain ⟨w', z⟩ := I.cell x c hc
    refine wpAny_storeName_cell I.ok.kind hk hc z (fun h' hc' hs => ?_)
    obtain ⟨oc, hoc, hocd⟩ := id z
    refine h { s with heap := h' } ⟨I.ok, I.os, I.bare, ⟨fun b o e n hb hx => ?_, fun b o e n hb hx => ?_, I.base.free, fun b o e hx => ?_, I.base.tups, I.base.frzs, I.base.tbls⟩, ⟨m, hn.sameBut hs (Ne.symm (cne x c hc)), fun j y v' e1 e2 e3 => ?_⟩, fun y c' e => ?_, I.free, I.freeC, fun p hp => ?_, tracked ⟨oc, hoc, I.freeC x c hc⟩ hs, by simpa using I.len⟩ ⟨c, hs, .inr hc⟩
    · exact (hs.2 b (Nat.ne_of_lt (Nat.lt_of_lt_of_le (Heap.lt_size e) (I.ok.cab x c hfn hc)))).trans (I.base.keep b o e n hb hx)
    · obtain ⟨sl, e1⟩ := I.base.slot b o e n hb hx
      exact ⟨sl, (hs.2 b (Nat.ne_of_lt (Nat.lt_of_lt_of_le (Heap.lt_size e) (I.ok.cab x c hfn hc)))).trans e1⟩
    · obtain ⟨o', e1⟩ := I.base.there b o e hx
      exact ⟨o', (hs.2 b (Nat.ne_of_lt (Nat.lt_of_lt_of_le (Heap.lt_size e) (I.ok.cab x c hfn hc)))).trans e1⟩
    · by_cases hj : j = i
      · subst hj
        rw [hi] at e1; cases e1
        rw [List.getElem?_set_self hiσ] at e2
        cases e2
        exact ⟨u, r, .inr ⟨.inl hk, c, hc, hc'⟩⟩
      · rw [List.getElem?_set_ne (Ne.symm hj)] at e2
        obtain ⟨u', r', q⟩ := hl j y v' e1 e2 e3
        refine ⟨u', r', ?_⟩
        rcases q with q | ⟨k, c', e, z'⟩
        · exact .inl q
        · refine .inr ⟨k, c', e, z'.sameBut hs ?_⟩
          rintro rfl
          exact hj (nodup_ix hN e1 (I.ok.inj _ _ _ e hc ▸ hi))
    · by_cases hcc : c' = c
      · subst hcc; exact ⟨_, hc'⟩
      · obtain ⟨w2, z2⟩ := I.cell y c' e
        exact ⟨w2, z2.sameBut hs hcc⟩
    · obtain ⟨e, n, ne, nf, d⟩ := I.pin p hp
      refine ⟨(hs.2 p.1 ?_).trans e, n, ne, nf, d⟩
      intro q
      rw [q, hoc] at e
      have q' : oc = p.2 := Option.some.inj e
      exact d w' (by rw [← q']; exact hocd)
theorem store_ok {M : Model} {A : Around} {E : Value → Shared → Prop} {i : Nat} {x : Str} {v : V} {u : Value} {Q : Unit → Shared → Prop} (I : Inv X pins σ H s) (hN : X.N.Nodup) (hi : X.N[i]? = some x) (hx : Loc X.env.scope x) (r : RelV v u)
    (h : ∀ s', Inv X pins (σ.set i (some v)) H s' → Q () s') (hf : X.fn x = true ∨ X.env.scope.names.lookup x = some .local := by first | exact .inl rfl | exact .inr rfl | assumption) : wpAny M A (storeName X.env x u) Q E s :=
  store_ok2 I hN hi hx r (fun s' I' _ => h s' I') hf
/-- behind a call or a block, the state as it is -/
theorem Inv.call' {s' : Shared} {ch : List Addr} (I : Inv X pins σ H s) (ho : s'.os = s.os) (u : Un (frs X.stack) ch H H' s.heap s'.heap) (hok : HOk X.prog X.w H' s'.heap) (hg : AllBare s'.gens)
    (hch : ∀ b ∈ ch, (b ∈ X.ex ∨ X.s₀.heap.objs.size ≤ b) ∧ b ≠ X.env.locals ∧ (∀ x c, X.env.cells.lookup x = some c → c ≠ b) ∧ ∀ p ∈ X.pn ++ pins, p.1 ≠ b) : Inv X pins σ H' s' := by
  obtain ⟨h', g', d', t', o'⟩ := s'
  have e : o' = s.os := ho
  subst e
  exact I.call (g' := g') (t' := t') (d' := d') u hok hg hch
end

/-! ### the judgements -/
/-- an exception: its class, its own dict's address (where it has one), the abstract heap behind it -/
abbrev XK := Value → Option Addr → Hp → Prop
abbrev St := List (Option V)
abbrev VK := V → Hp → Prop
/-- an expression's reading; a test's; an argument list's -/
abbrev TE := St → Hp → VK → Prop
abbrev TT := St → Hp → (Bool → Hp → Prop) → Prop
abbrev TA := St → Hp → (List V → Hp → Prop) → Prop
/-- what is wanted behind a statement -/
structure Ends where
  nx : St → Hp → Prop
  rt : VK
  bk : St → Hp → Prop := fun _ _ => False
  ct : St → Hp → Prop := fun _ _ => False
abbrev TS := Ends → St → Hp → Prop

def EP (X : Cx) (pins : List (Addr × Obj)) (σ : St) (Q : VK) (u : Value) (s' : Shared) : Prop := ∃ v H', Inv X pins σ H' s' ∧ RelV v u ∧ Q v H'
def TP (X : Cx) (pins : List (Addr × Obj)) (σ : St) (Q : Bool → Hp → Prop) (b : Bool) (s' : Shared) : Prop := ∃ H', Inv X pins σ H' s' ∧ Q b H'
def AP (X : Cx) (pins : List (Addr × Obj)) (σ : St) (Q : List V → Hp → Prop) (us : List Value) (s' : Shared) : Prop := ∃ vs H', Inv X pins σ H' s' ∧ Vals vs us ∧ Q vs H'
def SP (X : Cx) (pins : List (Addr × Obj)) (D : Ends) (f : Flow) (s' : Shared) : Prop :=
  match f with
  | .next => ∃ σ' H', Inv X pins σ' H' s' ∧ D.nx σ' H'
  | .brk => ∃ σ' H', Inv X pins σ' H' s' ∧ D.bk σ' H'
  | .cont => ∃ σ' H', Inv X pins σ' H' s' ∧ D.ct σ' H'
  | .ret u => ∃ v σ' H', Inv X pins σ' H' s' ∧ RelV v u ∧ D.rt v H'

def PE (X : Cx) (e : Expr) (t : TE) : Prop :=
  ∀ (pins : List (Addr × Obj)) (s : Shared) (σ : St) (H : Hp) (Q : VK), Inv X pins σ H s → t σ H Q → wpAny (model X.prog X.w) X.A (eval e X.env) (EP X pins σ Q) X.xe s
def PT (X : Cx) (e : Expr) (t : TT) : Prop :=
  ∀ (pins : List (Addr × Obj)) (s : Shared) (σ : St) (H : Hp) (Q : Bool → Hp → Prop), Inv X pins σ H s → t σ H Q → wpAny (model X.prog X.w) X.A (isTrue e X.env (eval e X.env)) (TP X pins σ Q) X.xe s
/-- a test whatever its 'whole' is (and, or) -/
def PW (X : Cx) (e : Expr) (t : TT) : Prop :=
  ∀ (whole : Sem Value) (pins : List (Addr × Obj)) (s : Shared) (σ : St) (H : Hp) (Q : Bool → Hp → Prop), Inv X pins σ H s → t σ H Q → wpAny (model X.prog X.w) X.A (isTrue e X.env whole) (TP X pins σ Q) X.xe s
theorem PW.pt {X : Cx} {e : Expr} {t : TT} (h : PW X e t) : PT X e t := h _
/-- an argument list (no star), from the left -/
def PA (X : Cx) (es : List Expr) (t : TA) : Prop :=
  ∀ (pos : Pos) (pins : List (Addr × Obj)) (s : Shared) (σ : St) (H : Hp) (Q : List V → Hp → Prop), Inv X pins σ H s → t σ H Q → wpAny (model X.prog X.w) X.A (spliced (backTo pos (starEach es X.env))) (AP X pins σ Q) X.xe s
def PS (X : Cx) (st : Stmt) (t : TS) : Prop :=
  ∀ (pins : List (Addr × Obj)) (s : Shared) (σ : St) (H : Hp) (D : Ends), Inv X pins σ H s → t D σ H → wpAny (model X.prog X.w) X.A (exec st X.env) (SP X pins D) X.xe s
def PSs (X : Cx) (st : List Stmt) (t : TS) : Prop :=
  ∀ (pins : List (Addr × Obj)) (s : Shared) (σ : St) (H : Hp) (D : Ends), Inv X pins σ H s → t D σ H → wpAny (model X.prog X.w) X.A (execs st X.env) (SP X pins D) X.xe s
/-- weaken the end -/
theorem thn {α : Type} {t : Sem α} {Q Q' : α → Shared → Prop} {M : Model} {A : Around} {E : Value → Shared → Prop} {s : Shared} (h : wpAny M A t Q E s) (hQ : ∀ a s, Q a s → Q' a s) : wpAny M A t Q' E s := wpAny_mono h hQ fun _ _ x => x
end L2

namespace L2
open PySem PySem.Spec PyProof.Rows
section
variable {X : Cx}

/-! ### names and constants -/
def tVar (i : Nat) : TE := fun σ H Q => ∃ v, σ[i]? = some (some v) ∧ Q v H
def tC (v : V) : TE := fun _ H Q => Q v H
theorem pe_var {i : Nat} {x : Str} {pos : Pos} (hN : X.N[i]? = some x) (hv : Vis X.env.scope x) (hd : (x == ("__debug__" : Str)) = false := by decide) (hcd : (x == ("__classdict__" : Str)) = false := by decide) : PE X (.Name x pos) (tVar i) := by
  intro pins s σ H Q I h
  obtain ⟨v, e, h⟩ := h
  obtain ⟨m, hn, hl⟩ := I.loc
  obtain ⟨u, r, l⟩ := hl i x v hN e hv
  have fin : EP X pins σ Q u s := ⟨v, H, I, r, h⟩
  rcases l with ⟨hk, hm⟩ | ⟨hk, c, hc, hcell⟩
  · exact wpAny_Name (wpAny_loadName_local I.ok.kind hk hn hm fin) hd
  · rcases hk with hk | hk
    · exact wpAny_Name (wpAny_loadName_cell I.ok.kind hk hc hcell fin) hd
    · exact wpAny_Name (wpAny_loadName_free I.ok.kind hk hc hcell fin hcd) hd
theorem pe_int {i j pos} : PE X (.Constant (.int i) j pos) (tC (.int i)) := fun _ _ _ H _ I h => wpAny_Constant_int ⟨.int i, H, I.tok _, ⟨_, rfl⟩, h⟩
theorem pe_bl {b j pos} : PE X (.Constant (.bool b) j pos) (tC (.bl b)) := fun _ _ _ H _ I h => Constant_bool ⟨.bl b, H, I, rfl, h⟩
theorem pe_non {j pos} : PE X (.Constant .none j pos) (tC .non) := fun _ _ _ H _ I h => Constant_none ⟨.non, H, I, rfl, h⟩
theorem pe_str {x j pos} : PE X (.Constant (.str x) j pos) (tC (.str x)) := fun _ _ _ H _ I h => Calls.Constant_str ⟨.str x, H, I.tok _, ⟨_, rfl⟩, h⟩

/-- a global name of the def -/
def Gl (X : Cx) (x : Str) : Prop := X.env.kindOf x = some .globalImplicit
theorem ld_glob {E : Value → Shared → Prop} {pins : List (Addr × Obj)} {s : Shared} {σ : St} {H : Hp} {x : Str} {u : Value} {pos : Pos} {Q : Value → Shared → Prop} (I : Inv X pins σ H s) (hg : Gl X x) (hm : X.mg x = some u) (h : Q u s)
    (hd : (x == ("__debug__" : Str)) = false := by decide) : wpAny (model X.prog X.w) X.A (eval (.Name x pos) X.env) Q E s :=
  Calls.Name_function_global I.ok.kind hg (Calls.loadGlobal_global (by rw [I.ok.glob]; exact I.mod.glob.keeps I.bk) hm h) hd
theorem ld_blt {E : Value → Shared → Prop} {pins : List (Addr × Obj)} {s : Shared} {σ : St} {H : Hp} {x : Str} {u : Value} {pos : Pos} {Q : Value → Shared → Prop} (I : Inv X pins σ H s) (hg : Gl X x) (hm : X.mg x = none) (hv : bootBuiltins x = some u) (h : Q u s)
    (hn : x ≠ "__name__" := by decide) (hd : (x == ("__debug__" : Str)) = false := by decide) : wpAny (model X.prog X.w) X.A (eval (.Name x pos) X.env) Q E s := by
  obtain ⟨mb, h1, h2⟩ := I.mod.blt
  exact Calls.Name_function_global I.ok.kind hg (Calls.loadGlobal_builtin (by rw [I.ok.glob]; exact I.mod.glob.keeps I.bk) hm (by rw [I.ok.blt]; exact h1.keeps I.bk) ((h2 x hn).trans hv) h) hd
/-- a module's constant, a class, a function, as a value -/
theorem pe_glob {x : Str} {v : V} {u : Value} {pos : Pos} (hg : Gl X x) (hm : X.mg x = some u) (r : RelV v u) (hd : (x == ("__debug__" : Str)) = false := by decide) : PE X (.Name x pos) (tC v) :=
  fun _ _ _ H _ I h => ld_glob I hg hm ⟨v, H, I, r, h⟩ hd
theorem pe_bltn {x : Str} {v : V} {u : Value} {pos : Pos} (hg : Gl X x) (hm : X.mg x = none) (hv : bootBuiltins x = some u) (r : RelV v u) (hn : x ≠ "__name__" := by decide) (hd : (x == ("__debug__" : Str)) = false := by decide) : PE X (.Name x pos) (tC v) :=
  fun _ _ _ H _ I h => ld_blt I hg hm hv ⟨v, H, I, r, h⟩ hn hd

/-! ### arithmetic -/
variable {a b : Expr} {ta tb : TE} {pos : Pos}
/-! ### comparisons -/
def PC (X : Cx) (op : CmpOp) (a b : Expr) (t : TE) : Prop :=
  ∀ (pins : List (Addr × Obj)) (s : Shared) (σ : St) (H : Hp) (Q : VK), Inv X pins σ H s → t σ H Q →
    wpAny (model X.prog X.w) X.A (eval a X.env) (fun v s₁ => wpAny (model X.prog X.w) X.A (eval b X.env) (fun u s₂ => wpAny (model X.prog X.w) X.A (compareOp op v u) (EP X pins σ Q) X.xe s₂) X.xe s₁) X.xe s
theorem nobehind (b : Expr) {op : CmpOp} (h : op ≠ .In) (h2 : op ≠ .NotIn) : behindInMarks op b = false := by
  have e1 : (op == CmpOp.In) = false := by cases op <;> first | rfl | exact absurd rfl h
  have e2 : (op == CmpOp.NotIn) = false := by cases op <;> first | rfl | exact absurd rfl h2
  cases b <;> first | rfl | (show (_ && (op == CmpOp.In || op == CmpOp.NotIn) && _) = false; rw [e1, e2, Bool.or_self, Bool.and_false, Bool.false_and])
/-- a comparison as a value, as a test -/
def tB (t : TE) : TT := fun σ H Q => t σ H fun x H1 => ∃ c, x = .bl c ∧ Q c H1
theorem pt_cmp {op : CmpOp} {t : TE} (h : PC X op a b t) (h1 : behindInMarks op b = false := by first | exact nobehind _ (by decide) (by decide) | rfl) : PT X (.Compare a [op] [b] pos) (tB t) := by
  intro pins s σ H Q I hw
  refine wpAny_isTrue_Compare1 (thn (h pins s σ H _ I hw) fun v s1 h1 => thn h1 fun u s2 h2 => thn h2 fun c s3 ⟨x, H1, I1, r1, q1⟩ => ?_) h1
  obtain ⟨d, rfl, q⟩ := q1
  cases r1
  exact wpAny_truthy_bool ⟨H1, I1, q⟩
/-- an expression whose value is a bool, as a test -/
theorem pt_val {e : Expr} {t : TE} (h : PE X e t) (he : ∀ whole, isTrue e X.env whole = (do let v ← whole; standAt e.pos; holding [v] (truthy v)) := by intro _; rfl) : PT X e (tB t) := by
  intro pins s σ H Q I hw
  refine isTrue_plain (thn (h pins s σ H _ I hw) fun v s1 ⟨x, H1, I1, r1, q1⟩ => ?_) (he _)
  obtain ⟨d, rfl, q⟩ := q1
  cases r1
  exact wpAny_truthy_bool ⟨H1, I1, q⟩

/-! ### and, or, not -/
variable {tA tB' : TT} {rest : List Expr}
def tAnd (t u : TT) : TT := fun σ H Q => t σ H fun c H1 => if c = true then u σ H1 Q else Q false H1
def tOr (t u : TT) : TT := fun σ H Q => t σ H fun c H1 => if c = true then Q true H1 else u σ H1 Q
def tNot (t : TT) : TT := fun σ H Q => t σ H fun c H1 => Q (!c) H1
theorem pw_and1 (ha : PT X a tA) : PW X (.BoolOp .And [a] pos) tA := by
  intro wh pins s σ H Q I h
  refine isTrue_and (thn (ha pins s σ H Q I h) fun c s1 e => ?_)
  cases c with
  | true => exact isTrue_and_nil e
  | false => exact e
theorem pw_or1 (ha : PT X a tA) : PW X (.BoolOp .Or [a] pos) tA := by
  intro wh pins s σ H Q I h
  refine isTrue_or (thn (ha pins s σ H Q I h) fun c s1 e => ?_)
  cases c with
  | false => exact isTrue_or_nil e
  | true => exact e
theorem pw_and (ha : PT X a tA) (hb : PW X (.BoolOp .And (b :: rest) pos) tB') : PW X (.BoolOp .And (a :: b :: rest) pos) (tAnd tA tB') := by
  intro wh pins s σ H Q I h
  refine isTrue_and (thn (ha pins s σ H _ I h) fun c s1 ⟨H1, I1, q1⟩ => ?_)
  cases c with
  | true => exact hb wh pins s1 σ H1 Q I1 q1
  | false => exact ⟨H1, I1, q1⟩
theorem pw_or (ha : PT X a tA) (hb : PW X (.BoolOp .Or (b :: rest) pos) tB') : PW X (.BoolOp .Or (a :: b :: rest) pos) (tOr tA tB') := by
  intro wh pins s σ H Q I h
  refine isTrue_or (thn (ha pins s σ H _ I h) fun c s1 ⟨H1, I1, q1⟩ => ?_)
  cases c with
  | true => exact ⟨H1, I1, q1⟩
  | false => exact hb wh pins s1 σ H1 Q I1 q1
theorem pt_not (ha : PT X a tA) : PT X (.UnaryOp .Not a pos) (tNot tA) := by
  intro pins s σ H Q I h
  exact isTrue_not (ha pins s σ H (fun c H1 => Q (!c) H1) I h)
/-- .. as values (bools) -/
def tAndV (ta tb : TE) : TE := fun σ H Q => ta σ H fun x H1 => ∃ c, x = .bl c ∧ if c = true then tb σ H1 Q else Q (.bl false) H1
def tOrV (ta tb : TE) : TE := fun σ H Q => ta σ H fun x H1 => ∃ c, x = .bl c ∧ if c = true then Q (.bl true) H1 else tb σ H1 Q
def tNotV (ta : TE) : TE := fun σ H Q => ta σ H fun x H1 => ∃ c, x = .bl c ∧ Q (.bl (!c)) H1
theorem pe_one {op} {t : TE} (h : PE X a t) : PE X (.BoolOp op [a] pos) t := fun pins s σ H Q I hw => BoolOp_one (h pins s σ H Q I hw)
theorem pe_and (ha : PE X a ta) (hb : PE X (.BoolOp .And (b :: rest) pos) tb) : PE X (.BoolOp .And (a :: b :: rest) pos) (tAndV ta tb) := by
  intro pins s σ H Q I h
  refine BoolOp_and (thn (ha pins s σ H _ I h) fun v s1 ⟨x, H1, I1, r1, q1⟩ => ?_)
  obtain ⟨c, rfl, q1⟩ := q1
  cases r1
  refine wpAny_truthy_bool ?_
  cases c with
  | true => exact hb pins s1 σ H1 Q I1 q1
  | false => exact ⟨.bl false, H1, I1, rfl, q1⟩
theorem pe_or (ha : PE X a ta) (hb : PE X (.BoolOp .Or (b :: rest) pos) tb) : PE X (.BoolOp .Or (a :: b :: rest) pos) (tOrV ta tb) := by
  intro pins s σ H Q I h
  refine BoolOp_or (thn (ha pins s σ H _ I h) fun v s1 ⟨x, H1, I1, r1, q1⟩ => ?_)
  obtain ⟨c, rfl, q1⟩ := q1
  cases r1
  refine wpAny_truthy_bool ?_
  cases c with
  | false => exact hb pins s1 σ H1 Q I1 q1
  | true => exact ⟨.bl true, H1, I1, rfl, q1⟩
theorem pe_not (ha : PE X a ta) : PE X (.UnaryOp .Not a pos) (tNotV ta) := by
  intro pins s σ H Q I h
  refine UnaryOp_ (thn (ha pins s σ H _ I h) fun v s1 ⟨x, H1, I1, r1, q1⟩ => ?_)
  obtain ⟨c, rfl, q1⟩ := q1
  cases r1
  exact not_of (wpAny_truthy_bool ⟨.bl (!c), H1, I1, rfl, q1⟩)
end
end L2

namespace L2
open PySem PySem.Spec PyProof.Rows

/-! ### a list, a tuple that is read: tracked, frozen, or an object of the module -/
def SqL (K : PySem.W.Frag) (H : Hp) (a : Addr) (xs : List V) : Prop :=
  Rd H a (.lst xs) ∨
    ∃ (o : Obj) (its : Array Value) (n : Nat), K.lookup a = some o ∧ o.cls = .type "list" ∧ o.dict = none ∧ o.data = .seq its n ∧ its.size ≤ sizeLine ∧ Vals xs its.toList
def SqT (K : PySem.W.Frag) (H : Hp) (a : Addr) (xs : List V) : Prop :=
  Rd H a (.tup xs) ∨
    ∃ (o : Obj) (its : Array Value) (n : Nat), K.lookup a = some o ∧ o.cls = .type "tuple" ∧ o.data = .seq its n ∧ its.size ≤ sizeLine ∧ Vals xs its.toList
def absV : Value → Option V
  | .none => some .non
  | .bool b => some (.bl b)
  | .int i _ => some (.int i)
  | .str x _ => some (.str x)
  | .bytes b _ => some (.byt b)
  | .float b _ => some (.flt b)
  | .ref a => some (.ref a)
  | .type n => some (.ty n)
  | _ => none
theorem RelV.abs {x : V} {u : Value} (r : RelV x u) : absV u = some x := by
  cases x with
  | non => cases r; rfl
  | bl _ => cases r; rfl
  | int _ => obtain ⟨t, rfl⟩ := r; rfl
  | str _ => obtain ⟨t, rfl⟩ := r; rfl
  | byt _ => obtain ⟨t, rfl⟩ := r; rfl
  | flt _ => obtain ⟨t, rfl⟩ := r; rfl
  | ref _ => cases r; rfl
  | ty _ => cases r; rfl
theorem RelV.inj {x y : V} {u : Value} (r : RelV x u) (q : RelV y u) : x = y := Option.some.inj (r.abs.symm.trans q.abs)
theorem Vals.inj : ∀ {xs ys : List V} {us : List Value}, Vals xs us → Vals ys us → xs = ys := by
  intro xs ys us h
  induction h generalizing ys with
  | nil => intro k; cases k; rfl
  | cons r t ih => intro k; cases k with | cons r' t' => rw [r.inj r', ih t']
section
variable {X : Cx} {pins : List (Addr × Obj)} {σ : St} {H : Hp} {s : Shared} {a : Addr} {xs ys : List V}
theorem SqL.of {K : PySem.W.Frag} (h : H a = some (.lst xs)) : SqL K H a xs := .inl (.inl h)
theorem SqT.of {K : PySem.W.Frag} (h : H a = some (.tup xs)) : SqT K H a xs := .inl (.inl h)
theorem Inv.list (I : Inv X pins σ H s) (h : SqL X.K H a xs) : ∃ its : List Value, Vals xs its ∧ PlainL s.heap a its.toArray ∧ xs.length ≤ sizeLine := by
  rcases h with h | ⟨o, its, n, hk, hc, hd, hs, hz, r⟩
  · obtain ⟨z, its, n, r, e⟩ := h.ok I.hok
    exact ⟨its, r, ⟨_, n, e, rfl, rfl, rfl⟩, z⟩
  · refine ⟨its.toList, r, ⟨o, n, I.kIn a o hk, hc, hd, by simpa using hs⟩, ?_⟩
    have e := r.length
    simp only [Array.length_toList] at e
    omega
theorem Inv.tuple (I : Inv X pins σ H s) (h : SqT X.K H a xs) : ∃ its : List Value, Vals xs its ∧ IsTup s.heap a its.toArray ∧ xs.length ≤ sizeLine := by
  rcases h with h | ⟨o, its, n, hk, hc, hs, hz, r⟩
  · obtain ⟨z, its, r, p⟩ := h.ok I.hok
    exact ⟨its, r, p, z⟩
  · refine ⟨its.toList, r, ⟨o, I.kIn a o hk, hc, n, by simpa using hs⟩, ?_⟩
    have e := r.length
    simp only [Array.length_toList] at e
    omega
theorem Inv.list_inj (I : Inv X pins σ H s) (h : SqL X.K H a xs) (h' : SqL X.K H a ys) : xs = ys := by
  obtain ⟨its, r, ⟨o, n, e, _, _, d⟩, _⟩ := I.list h
  obtain ⟨its', r', ⟨o', n', e', _, _, d'⟩, _⟩ := I.list h'
  rw [e] at e'; cases e'
  rw [d] at d'
  injection d' with d1 _
  have : its = its' := by simpa using congrArg Array.toList d1
  subst this
  exact r.inj r'
theorem Inv.tuple_inj (I : Inv X pins σ H s) (h : SqT X.K H a xs) (h' : SqT X.K H a ys) : xs = ys := by
  obtain ⟨its, r, ⟨o, e, _, n, d⟩, _⟩ := I.tuple h
  obtain ⟨its', r', ⟨o', e', _, n', d'⟩, _⟩ := I.tuple h'
  rw [e] at e'; cases e'
  rw [d] at d'
  injection d' with d1 _
  have : its = its' := by simpa using congrArg Array.toList d1
  subst this
  exact r.inj r'
end

/-! ### another wish about exceptions -/
abbrev Cx.wish (X : Cx) (E : Value → Shared → Prop) : Cx := { X with xe := E }
/-- no exception leaves -/
abbrev Cx.nox (X : Cx) : Cx := X.wish fun _ _ => False
theorem Cx.Ok.wish {X : Cx} (ok : X.Ok) (E : Value → Shared → Prop) : (X.wish E).Ok :=
  ⟨ok.mod, ok.kind, ok.glob, ok.blt, ok.above, ok.inj, ok.has, ok.cab, ok.hd, ok.frames, ok.stk, ok.exf, ok.bs, ok.bsz, ok.noex, ok.exfs, ok.funs, ok.frf⟩
theorem Cx.Ok.unwish {X : Cx} {E : Value → Shared → Prop} (ok : (X.wish E).Ok) : X.Ok :=
  ⟨ok.mod, ok.kind, ok.glob, ok.blt, ok.above, ok.inj, ok.has, ok.cab, ok.hd, ok.frames, ok.stk, ok.exf, ok.bs, ok.bsz, ok.noex, ok.exfs, ok.funs, ok.frf⟩
section
variable {X : Cx} {pins : List (Addr × Obj)} {σ : St} {H : Hp} {s : Shared} {E : Value → Shared → Prop}
theorem Inv.wish (I : Inv X pins σ H s) (E : Value → Shared → Prop) : Inv (X.wish E) pins σ H s := ⟨I.ok.wish E, I.os, I.bare, I.base, I.loc, I.cell, I.free, I.freeC, I.pin, I.hok, I.len⟩
theorem Inv.unwish (I : Inv (X.wish E) pins σ H s) : Inv X pins σ H s := ⟨I.ok.unwish, I.os, I.bare, I.base, I.loc, I.cell, I.free, I.freeC, I.pin, I.hok, I.len⟩
theorem SP.unwish {D : Ends} {f : Flow} {s' : Shared} (h : SP (X.wish E) pins D f s') : SP X pins D f s' := by
  cases f with
  | next => obtain ⟨σ', H', I, q⟩ := h; exact ⟨σ', H', I.unwish, q⟩
  | brk => obtain ⟨σ', H', I, q⟩ := h; exact ⟨σ', H', I.unwish, q⟩
  | cont => obtain ⟨σ', H', I, q⟩ := h; exact ⟨σ', H', I.unwish, q⟩
  | ret u => obtain ⟨v, σ', H', I, r, q⟩ := h; exact ⟨v, σ', H', I.unwish, r, q⟩
theorem PSs.nox {st : List Stmt} {t : TS} (h : PSs X.nox st t) : PSs X st t := fun pins s σ H D I hw =>
  wpAny_mono (h pins s σ H D (I.wish _) hw) (fun _ _ q => q.unwish) fun _ _ z => False.elim z
end

/-! ### blocks and small statements -/
section
variable {X : Cx} {st : Stmt} {rest : List Stmt} {t u : TS} {e : Expr} {te : TE} {pos : Pos}
def tNext : TS := fun D σ H => D.nx σ H
def tSeq (t u : TS) : TS := fun D σ H => t { D with nx := u D } σ H
theorem pss_nil : PSs X [] tNext := fun _ _ σ H _ I h => wpAny_execs_nil ⟨σ, H, I, h⟩
theorem pss_cons (h1 : PS X st t) (h2 : PSs X rest u) : PSs X (st :: rest) (tSeq t u) := by
  intro pins s σ H D I h
  refine wpAny_execs_cons (thn (h1 pins s σ H { D with nx := u D } I h) fun f s1 q => ?_)
  cases f with
  | next =>
    obtain ⟨σ', H', I', q⟩ := q
    exact h2 pins s1 σ' H' D I' q
  | ret v => exact q
  | brk => exact q
  | cont => exact q
theorem pss_one (h1 : PS X st t) : PSs X [st] t := by
  intro pins s σ H D I h
  refine wpAny_execs_cons (thn (h1 pins s σ H D I h) fun f s1 q => ?_)
  cases f with
  | next => exact wpAny_execs_nil q
  | ret v => exact q
  | brk => exact q
  | cont => exact q
/-- in a def's body nothing is shown -/
theorem Inv.quiet {pins : List (Addr × Obj)} {σ : St} {H : Hp} {s : Shared} (I : Inv X pins σ H s) : interactive X.env = false := by simp [interactive, I.ok.kind]
/-- an expression whose value is dropped -/
def tDrop (te : TE) : TS := fun D σ H => te σ H fun _ H1 => D.nx σ H1
theorem ps_expr (he : PE X e te) (hs : swapsWith e none pos.line X.env = pure false := by rfl) : PS X (.Expr e pos) (tDrop te) := by
  intro pins s σ H D I h
  exact wpAny_Expr_any (thn (he pins s σ H _ I h) fun v s1 ⟨x, H1, I1, r1, q1⟩ => ⟨σ, H1, I1, q1⟩) I.quiet hs
def tRet (te : TE) : TS := fun D σ H => te σ H D.rt
theorem ps_ret (he : PE X e te) : PS X (.Return (some e) pos) (tRet te) := by
  intro pins s σ H D I h
  exact wpAny_Return_some (thn (he pins s σ H _ I h) fun v s1 ⟨x, H1, I1, r1, q1⟩ => ⟨x, σ, H1, I1, r1, q1⟩)
def tIfS (c : TT) (t u : TS) : TS := fun D σ H => c σ H fun b H1 => if b = true then t D σ H1 else u D σ H1
theorem ps_if {c : Expr} {a b : List Stmt} {tc : TT} (hc : PT X c tc) (ha : PSs X a t) (hb : PSs X b u) : PS X (.If c a b pos) (tIfS tc t u) := by
  intro pins s σ H D I h
  refine wpAny_If (thn (hc pins s σ H _ I h) fun d s1 ⟨H1, I1, q1⟩ => ?_)
  cases d with
  | true => exact ha pins s1 σ H1 D I1 q1
  | false => exact hb pins s1 σ H1 D I1 q1
end

/-! ### targets -/
abbrev TG := V → St → Hp → (St → Hp → Prop) → Prop
abbrev TGs := List V → St → Hp → (St → Hp → Prop) → Prop
def PG (X : Cx) (target : Expr) (t : TG) : Prop :=
  ∀ (pins : List (Addr × Obj)) (s : Shared) (σ : St) (H : Hp) (v : V) (u : Value) (Q : St → Hp → Prop), Inv X pins σ H s → RelV v u → t v σ H Q →
    wpAny (model X.prog X.w) X.A (assign target X.env u) (fun _ s' => ∃ σ' H', Inv X pins σ' H' s' ∧ Q σ' H') X.xe s
/-- several targets, one after another -/
def PGs (X : Cx) (ts : List Expr) (t : TGs) : Prop :=
  ∀ (pins : List (Addr × Obj)) (s : Shared) (σ : St) (H : Hp) (vs : List V) (us : List Value) (Q : St → Hp → Prop), Inv X pins σ H s → Vals vs us → t vs σ H Q →
    wpAny (model X.prog X.w) X.A (assignInOrder ((assignEach ts X.env).map (·.2)) us) (fun _ s' => ∃ σ' H', Inv X pins σ' H' s' ∧ Q σ' H') X.xe s
/-- o[i] = v, by values -/
abbrev TSet := V → V → V → Hp → (Hp → Prop) → Prop
def PSet (X : Cx) (t : TSet) : Prop :=
  ∀ (pins : List (Addr × Obj)) (s : Shared) (σ : St) (H : Hp) (o i v : V) (ov iv u : Value) (Q : Hp → Prop), Inv X pins σ H s → RelV o ov → RelV i iv → RelV v u → t o i v H Q →
    wpAny (model X.prog X.w) X.A (setItem ov iv u) (fun _ s' => ∃ H', Inv X pins σ H' s' ∧ Q H') X.xe s
section
variable {X : Cx} {pos : Pos}
def gName (i : Nat) : TG := fun v σ H Q => Q (σ.set i (some v)) H
theorem pg_name {i : Nat} {x : Str} (hN : X.N.Nodup) (hi : X.N[i]? = some x) (hx : Loc X.env.scope x) (hf : X.fn x = true ∨ X.env.scope.names.lookup x = some .local := by first | exact .inl rfl | exact .inr rfl | assumption) : PG X (.Name x pos) (gName i) := by
  intro pins s σ H v u Q I r h
  exact wpAny_assign_Name (store_ok I hN hi hx r (fun s' I' => ⟨_, H, I', h⟩) hf)
def gNil : TGs := fun vs σ H Q => vs = [] ∧ Q σ H
def gCons (t : TG) (u : TGs) : TGs := fun vs σ H Q => ∃ v r, vs = v :: r ∧ t v σ H fun σ' H' => u r σ' H' Q
theorem pgs_nil : PGs X [] gNil := by
  intro pins s σ H vs us Q I r h
  obtain ⟨e, h⟩ := h
  subst e
  cases r
  exact assignInOrder_nil ⟨σ, H, I, h⟩
theorem pgs_cons {e : Expr} {es : List Expr} {t : TG} {u : TGs} (h1 : PG X e t) (h2 : PGs X es u)
    (hs : (assignEach (e :: es) X.env).map (·.2) = assign e X.env :: (assignEach es X.env).map (·.2) := by rfl) : PGs X (e :: es) (gCons t u) := by
  intro pins s σ H vs us Q I r h
  obtain ⟨v, vr, e1, h⟩ := h
  subst e1
  cases r with
  | cons r rr =>
    rw [hs]
    refine assignInOrder_cons (thn (h1 pins s σ H _ _ _ I r h) fun _ s1 ⟨σ1, H1, I1, q1⟩ => ?_)
    exact h2 pins s1 σ1 H1 _ _ Q I1 rr q1
/-- (a, b, ..) = a tuple of that length -/
def gTup (K : PySem.W.Frag) (n : Nat) (t : TGs) : TG := fun v σ H Q => ∃ a xs, v = .ref a ∧ SqT K H a xs ∧ xs.length = n ∧ t xs σ H Q
theorem pg_tup {es : List Expr} {k : Nat} {t : TGs} {n : Nat} (hc : X.calm = true) (h : PGs X es t)
    (hn : (assignEach es X.env).length = n := by rfl) (hst : (assignEach es X.env).findIdx? (·.1) = none := by rfl) : PG X (.Tuple es k pos) (gTup X.K n t) := by
  intro pins s σ H v u Q I r hw
  obtain ⟨a, xs, e1, hq, hl, hw⟩ := hw
  subst e1
  cases r
  obtain ⟨its, rv, ht, hz⟩ := I.tuple hq
  refine assign_Tuple_tuple (I.ok.hd hc) ht (by simp [hn, ← hl, rv.length]) hst fun h' hx => ?_
  have I1 : Inv X pins σ H { s with heap := h' } := I.kept (t' := s.toks) fun b o e => hx b o (Nat.ne_of_lt (Heap.lt_size e)) e
  exact h pins _ σ H xs _ Q I1 (by simpa using rv) hw
/-- o[i] = .. -/
def gSub (to ti : TE) (t : TSet) : TG := fun v σ H Q => to σ H fun o H1 => ti σ H1 fun i H2 => t o i v H2 fun H3 => Q σ H3
theorem pg_sub {o i : Expr} {to ti : TE} {t : TSet} (ho : PE X o to) (hi : PE X i ti) (hs : PSet X t)
    (ha : ∀ v, assign (.Subscript o i pos) X.env v = (do
      let ov ← holding [v] (eval o X.env)
      let iv ← holding [v, ov] (eval i X.env)
      standAt pos
      holding [v, ov, iv] (setItem ov iv v)
      release [v, ov, iv] []) := by intro _; rfl) : PG X (.Subscript o i pos) (gSub to ti t) := by
  intro pins s σ H v u Q I r h
  rw [ha]
  refine wpAny_bind (wpAny_holding (thn (ho pins s σ H _ I h) fun ov s1 ⟨x, H1, I1, r1, q1⟩ => ?_))
  refine wpAny_bind (wpAny_holding (thn (hi pins s1 σ H1 _ I1 q1) fun iv s2 ⟨y, H2, I2, r2, q2⟩ => ?_))
  refine wpAny_bind (wpAny_standAt (wpAny_bind (wpAny_holding (thn (hs pins s2 σ H2 x y v ov iv u _ I2 r1 r2 r q2) fun _ s3 ⟨H3, I3, q3⟩ => ?_))))
  exact wpAny_release ⟨σ, H3, I3, q3⟩
/-- target = value -/
def tAsg (te : TE) (g : TG) : TS := fun D σ H => te σ H fun x H1 => g x σ H1 D.nx
theorem ps_asg {tg e : Expr} {te : TE} {g : TG} (he : PE X e te) (hg : PG X tg g) (hs : swapsWithSole [tg] e pos.line X.env = pure false := by rfl) (hw : swappedStores [tg] e X.env = pure none := by rfl)
    (h1 : (assignEach [tg] X.env).map (·.2) = [assign tg X.env] := by rfl) : PS X (.Assign [tg] e pos) (tAsg te g) := by
  intro pins s σ H D I h
  refine wpAny_Assign_stores (thn (he pins s σ H _ I h) fun v s1 ⟨x, H1, I1, r1, q1⟩ => ?_) hs hw
  rw [h1]
  exact thn (hg pins s1 σ H1 x v _ I1 r1 q1) fun _ s2 q => q
/-- name = value -/
theorem ps_set {i : Nat} {x : Str} {e : Expr} {te : TE} {pos' : Pos} (hN : X.N.Nodup) (hi : X.N[i]? = some x) (hx : Loc X.env.scope x) (he : PE X e te) (hs : swapsWith e (some (.Name x pos')) pos.line X.env = pure false := by rfl) (hf : X.fn x = true ∨ X.env.scope.names.lookup x = some .local := by first | exact .inl rfl | exact .inr rfl | assumption) :
    PS X (.Assign [.Name x pos'] e pos) (tAsg te (gName i)) := by
  intro pins s σ H D I h
  refine wpAny_Assign_Name (thn (he pins s σ H _ I h) fun v s1 ⟨y, H1, I1, r1, q1⟩ => ?_) hs
  exact store_ok I1 hN hi hx r1 (fun s2 I2 => ⟨_, H1, I2, q1⟩) hf
end

/-! ### while -/
section
variable {X : Cx} {pos : Pos}
end

/-! ### what a loop or a comprehension walks -/
/-- at turn i: it yields x (the heap may grow), or it stops -/
structure It where
  go : Nat → Hp → Prop
  yld : Nat → Hp → V → Hp → Prop
  stop : Nat → Hp → Prop
/-- the iterator's own objects may turn: they are not the frame's, not pinned, younger than the entry (or a comprehension's own) -/
def FpOk (X : Cx) (pins : List (Addr × Obj)) (H : Hp) (b : Addr) : Prop :=
  H b = none ∧ b ≠ X.env.locals ∧ b ∉ X.fs ∧ (b ∈ X.ex ∨ X.s₀.heap.objs.size ≤ b) ∧ (∀ x c, X.env.cells.lookup x = some c → c ≠ b) ∧ ∀ p ∈ X.pn ++ pins, p.1 ≠ b
theorem Inv.fpOk {X : Cx} {pins : List (Addr × Obj)} {σ : St} {H H' : Hp} {s : Shared} {b : Addr} (I : Inv X pins σ H s) (hb : s.heap.objs.size ≤ b) (hn : H' b = none) : FpOk X pins H' b := by
  refine ⟨hn, Nat.ne_of_gt (Nat.lt_of_lt_of_le I.lt hb), I.nofs hb, .inr (Nat.le_trans I.sz hb), fun x c e z => ?_, fun p hp z => ?_⟩
  · obtain ⟨v, q⟩ := I.cell x c e
    exact absurd (Nat.lt_of_lt_of_le q.lt (by rw [z]; exact hb)) (Nat.lt_irrefl _)
  · exact absurd (Nat.lt_of_lt_of_le (Heap.lt_size (I.pin p hp).1) (by rw [z]; exact hb)) (Nat.lt_irrefl _)
structure Turn (P : Program) (w : World) (K : PySem.W.Frag) (tg : Expr) (J : It) (fp : List Addr) (it : Addr) (tn : Nat → Heap → Prop) : Prop where
  mem : it ∈ fp
  obj : ∀ i h, tn i h → ∀ b ∈ fp, ∃ o, h.get? b = some o ∧ ∀ v, o.data ≠ .cell v
  keep : ∀ i h h', tn i h → (∀ b ∈ fp, ∀ o, h.get? b = some o → h'.get? b = some o) → tn i h'
  item : ∀ (X : Cx), X.prog = P → X.w = w → X.K = K → X.calm = true → ∀ (i : Nat) (pins : List (Addr × Obj)) (s : Shared) (σ : St) (H : Hp) (E : Value → Shared → Prop), Inv X pins σ H s → (∀ b ∈ fp, FpOk X pins H b) → tn i s.heap → J.go i H →
    wpAny (model P w) X.A (pyNext (.ref it)) (fun r s1 => ∃ u, r = some u ∧
      wpAny (model P w) X.A (letOwnedTupleGo tg (.ref it) u) (fun _ s2 => ∃ x H', Inv X pins σ H' s2 ∧ RelV x u ∧ J.yld i H x H' ∧ tn (i + 1) s2.heap ∧ ∀ b ∈ fp, H' b = none) E s1) E s
  done : ∀ (X : Cx), X.prog = P → X.w = w → X.K = K → X.calm = true → ∀ (i : Nat) (pins : List (Addr × Obj)) (s : Shared) (σ : St) (H : Hp) (E : Value → Shared → Prop), Inv X pins σ H s → (∀ b ∈ fp, FpOk X pins H b) → tn i s.heap → J.stop i H →
    wpAny (model P w) X.A (pyNext (.ref it)) (fun r s1 => r = none ∧ Inv X pins σ H s1) E s
  self : ∀ (A : Around) (i : Nat) (s : Shared) (Q : Value → Shared → Prop) (E : Value → Shared → Prop), tn i s.heap → Q (.ref it) s → wpAny (model P w) A (pyIter (.ref it)) Q E s
abbrev TI := St → Hp → (It → Hp → Prop) → Prop
/-- an iterator has come -/
def PIE (X : Cx) (pins : List (Addr × Obj)) (σ : St) (tg : Expr) (R : It → Hp → Prop) (itv : Value) (s2 : Shared) : Prop :=
  ∃ (it : Addr) (fp : List Addr) (tn : Nat → Heap → Prop) (J : It) (H' : Hp), itv = .ref it ∧ Inv X pins σ H' s2 ∧ Turn X.prog X.w X.K tg J fp it tn ∧ tn 0 s2.heap ∧ (∀ b ∈ fp, FpOk X pins H' b) ∧ R J H'
def PI (X : Cx) (tg iter : Expr) (wi : TI) : Prop :=
  ∀ (pins : List (Addr × Obj)) (s : Shared) (σ : St) (H : Hp) (R : It → Hp → Prop), Inv X pins σ H s → wi σ H R →
    wpAny (model X.prog X.w) X.A (eval iter X.env) (fun v s1 => wpAny (model X.prog X.w) X.A (pyIter v) (PIE X pins σ tg R) X.xe s1) X.xe s

/-- the step ahead of the store is nothing for an iterator that keeps no tuple -/
theorem go_of {M : Model} {A : Around} {E : Value → Shared → Prop} {s : Shared} {tg : Expr} {it : Addr} {u : Value} {o : Obj} {n : String} {vs : Array Value} {Q : Unit → Shared → Prop} (ho : s.heap.get? it = some o) (hc : o.cls = .type n) (hd : o.data = .fields vs)
    (hn : ["enumerate", "zip", "dict_itemiterator", "dict_reverseitemiterator", "odict_iterator", "itertools.zip_longest", "itertools.pairwise"].contains n = false) (hQ : Q () s) : wpAny M A (letOwnedTupleGo tg (.ref it) u) Q E s := by
  unfold letOwnedTupleGo
  cases tg <;> first
    | exact wpAny_pure hQ
    | (cases u <;> first
        | exact wpAny_pure hQ
        | (refine wpAny_bind (wpAny_load ho ?_)
           rw [hc, hd]
           show wpAny M A (if (["enumerate", "zip", "dict_itemiterator", "dict_reverseitemiterator", "odict_iterator", "itertools.zip_longest", "itertools.pairwise"].contains n && vs[0]? == some (rawInt _)) = true then _ else _) Q E s
           rw [if_neg (by intro h; rw [hn, Bool.false_and] at h; cases h)]
           exact wpAny_pure hQ))

/-- the list at a, as it stands at each turn (a loop may append to it) -/
def Itl (K : PySem.W.Frag) (a : Addr) : It :=
  ⟨fun i H => ∃ xs x, SqL K H a xs ∧ xs[i]? = some x, fun i H x H' => H' = H ∧ ∀ xs, SqL K H a xs → xs[i]? = some x, fun i H => ∃ xs, SqL K H a xs ∧ xs.length ≤ i⟩
def Itt (K : PySem.W.Frag) (a : Addr) : It :=
  ⟨fun i H => ∃ xs x, SqT K H a xs ∧ xs[i]? = some x, fun i H x H' => H' = H ∧ ∀ xs, SqT K H a xs → xs[i]? = some x, fun i H => ∃ xs, SqT K H a xs ∧ xs.length ≤ i⟩
/-- lo, lo + 1, .. (n of them) -/
def Itr (lo : Int) (n : Nat) : It := ⟨fun i _ => i < n, fun i H x H' => H' = H ∧ x = .int (lo + i), fun i _ => n ≤ i⟩
theorem turn_list {P : Program} {w : World} {K : PySem.W.Frag} {tg : Expr} (a it : Addr) : Turn P w K tg (Itl K a) [it] it (fun i h => h.IsListIter it a i) where
  mem := by simp
  obj := fun i h st b hb => by
    have e : b = it := by simpa using hb
    subst e
    obtain ⟨o, e, c, d⟩ := st
    exact ⟨o, e, fun v z => by rw [d] at z; cases z⟩
  keep := fun i h h' st k => st.at fun o e => k it (by simp) o e
  item := by
    intro X hP hw hK hc i pins s σ H E I hf st hg
    subst hP hw hK
    obtain ⟨xs, x, hq, hx⟩ := hg
    obtain ⟨its, rv, p, hz⟩ := I.list hq
    obtain ⟨u, hu, ru⟩ := rv.get hx
    obtain ⟨f0, f1, f2, f3, f4, f5⟩ := hf it (by simp)
    refine wpAny_pyNext_list_item st p.isList (x := u) (by simpa using hu) fun h' st' sb => ?_
    have I1 : Inv X pins σ H { s with heap := h' } := I.turned (t' := s.toks) (fun b o hb e => (sb.2 b hb).trans e) f0 f1 f3 f4 f5
    obtain ⟨o, e, c, d⟩ := id st'
    exact ⟨u, rfl, go_of (s := { s with heap := h' }) e c d (by decide) ⟨x, H, I1, ru, ⟨rfl, fun ys hy => by rw [I.list_inj hy hq]; exact hx⟩, st', fun b hb => (hf b hb).1⟩⟩
  done := by
    intro X hP hw hK hc i pins s σ H E I hf st hg
    subst hP hw hK
    obtain ⟨xs, hq, hx⟩ := hg
    obtain ⟨its, rv, p, hz⟩ := I.list hq
    obtain ⟨f0, f1, f2, f3, f4, f5⟩ := hf it (by simp)
    have hl := rv.length
    exact wpAny_pyNext_list_end (I.ok.hd hc) st p.isList (by simp; omega) fun h' eb => ⟨rfl, I.turned (t' := s.toks) (fun b o hb e => eb b o hb e) f0 f1 f3 f4 f5⟩
  self := fun _ _ _ _ _ st h => wpAny_pyIter_listiter st h
theorem turn_tuple {P : Program} {w : World} {K : PySem.W.Frag} {tg : Expr} (a it : Addr) : Turn P w K tg (Itt K a) [it] it (fun i h => h.IsTupleIter it a i) where
  mem := by simp
  obj := fun i h st b hb => by
    have e : b = it := by simpa using hb
    subst e
    obtain ⟨o, e, c, d⟩ := st
    exact ⟨o, e, fun v z => by rw [d] at z; cases z⟩
  keep := fun i h h' st k => st.at fun o e => k it (by simp) o e
  item := by
    intro X hP hw hK hc i pins s σ H E I hf st hg
    subst hP hw hK
    obtain ⟨xs, x, hq, hx⟩ := hg
    obtain ⟨its, rv, p, hz⟩ := I.tuple hq
    obtain ⟨u, hu, ru⟩ := rv.get hx
    obtain ⟨f0, f1, f2, f3, f4, f5⟩ := hf it (by simp)
    refine wpAny_pyNext_tuple_item st (show s.heap.IsTuple a its.toArray from p) (x := u) (by simpa using hu) fun h' st' sb => ?_
    have I1 : Inv X pins σ H { s with heap := h' } := I.turned (t' := s.toks) (fun b o hb e => (sb.2 b hb).trans e) f0 f1 f3 f4 f5
    obtain ⟨o, e, c, d⟩ := id st'
    exact ⟨u, rfl, go_of (s := { s with heap := h' }) e c d (by decide) ⟨x, H, I1, ru, ⟨rfl, fun ys hy => by rw [I.tuple_inj hy hq]; exact hx⟩, st', fun b hb => (hf b hb).1⟩⟩
  done := by
    intro X hP hw hK hc i pins s σ H E I hf st hg
    subst hP hw hK
    obtain ⟨xs, hq, hx⟩ := hg
    obtain ⟨its, rv, p, hz⟩ := I.tuple hq
    obtain ⟨f0, f1, f2, f3, f4, f5⟩ := hf it (by simp)
    have hl := rv.length
    exact wpAny_pyNext_tuple_end (I.ok.hd hc) st (show s.heap.IsTuple a its.toArray from p) (by simp; omega) fun h' eb => ⟨rfl, I.turned (t' := s.toks) (fun b o hb e => eb b o hb e) f0 f1 f3 f4 f5⟩
  self := fun _ _ _ _ _ st h => wpAny_pyIter_tupleiter st h
theorem turn_range {P : Program} {w : World} {K : PySem.W.Frag} {tg : Expr} (it : Addr) (lo : Int) (n : Nat) : Turn P w K tg (Itr lo n) [it] it (fun i h => IsRangeIter h it (lo + (i : Nat) * 1) ((n : Int) - (i : Nat)) 1) where
  mem := by simp
  obj := fun i h st b hb => by
    have e : b = it := by simpa using hb
    subst e
    exact ⟨_, st, fun v z => by
      have z' : Data.fields _ = Data.cell v := z
      cases z'⟩
  keep := fun i h h' st k => k it (by simp) _ st
  item := by
    intro X hP hw hK hc i pins s σ H E I hf st hg
    subst hP hw hK
    obtain ⟨f0, f1, f2, f3, f4, f5⟩ := hf it (by simp)
    have W := Walks.range (prog := X.prog) (w := X.w) (I.ok.hd hc) it lo 1 n
    refine W.item i s _ _ hg st fun v h' tk hv st' kk => ?_
    obtain ⟨t, rfl⟩ := hv
    have I1 : Inv X pins σ H { s with heap := h', toks := tk } := I.turned (fun b o hb e => kk b o (by simpa using hb) e) f0 f1 f3 f4 f5
    refine ⟨_, rfl, go_of (s := { s with heap := h', toks := tk }) (n := "range_iterator") st' rfl rfl (by decide) ⟨.int (lo + i), H, I1, ⟨t, ?_⟩, ⟨rfl, rfl⟩, st', fun b hb => (hf b hb).1⟩⟩
    rw [Int.mul_one]
  done := by
    intro X hP hw hK hc i pins s σ H E I hf st hg
    subst hP hw hK
    obtain ⟨f0, f1, f2, f3, f4, f5⟩ := hf it (by simp)
    exact wpAny_pyNext_range_end (I.ok.hd hc) st (by have : n ≤ i := hg; omega) fun h' eb => ⟨rfl, I.turned (t' := s.toks) (fun b o hb e => eb b o hb e) f0 f1 f3 f4 f5⟩
  self := fun _ _ _ _ _ st h => wpAny_pyIter_rangeiter st h
end L2

namespace L2
open PySem PySem.Spec PyProof.Rows
section
variable {X : Cx} {tg : Expr}
def iList (K : PySem.W.Frag) (tl : TE) : TI := fun σ H R => tl σ H fun x H1 => ∃ a, x = .ref a ∧ (∃ xs, SqL K H1 a xs) ∧ R (Itl K a) H1
def iTup (K : PySem.W.Frag) (tl : TE) : TI := fun σ H R => tl σ H fun x H1 => ∃ a, x = .ref a ∧ (∃ xs, SqT K H1 a xs) ∧ R (Itt K a) H1
theorem pi_list {l : Expr} {tl : TE} (hl : PE X l tl) : PI X tg l (iList X.K tl) := by
  intro pins s σ H R I h
  refine thn (hl pins s σ H _ I h) fun v s1 ⟨x, H1, I1, r1, q1⟩ => ?_
  obtain ⟨a, e, ⟨xs, hq⟩, q⟩ := q1
  subst e
  cases r1
  obtain ⟨its, rv, p, hz⟩ := I1.list hq
  refine wpAny_pyIter_list p.isList ?_
  refine ⟨s1.heap.objs.size, [s1.heap.objs.size], _, _, H1, rfl, I1.kept (t' := s1.toks) fun b o e => Heap.get?_push_of_some _ e, turn_list a _, ⟨_, Heap.get?_push_size _ rfl, rfl, rfl⟩, fun b hb => ?_, q⟩
  have e : b = s1.heap.objs.size := by simpa using hb
  subst e
  exact I1.fpOk (Nat.le_refl _) (I1.hok.fresh (Nat.le_refl _))
theorem pi_tup {l : Expr} {tl : TE} (hl : PE X l tl) : PI X tg l (iTup X.K tl) := by
  intro pins s σ H R I h
  refine thn (hl pins s σ H _ I h) fun v s1 ⟨x, H1, I1, r1, q1⟩ => ?_
  obtain ⟨a, e, ⟨xs, hq⟩, q⟩ := q1
  subst e
  cases r1
  obtain ⟨its, rv, p, hz⟩ := I1.tuple hq
  refine wpAny_pyIter_tuple (show s1.heap.IsTuple a its.toArray from p) ?_
  refine ⟨s1.heap.objs.size, [s1.heap.objs.size], _, _, H1, rfl, I1.kept (t' := s1.toks) fun b o e => Heap.get?_push_of_some _ e, turn_tuple a _, ⟨_, Heap.get?_push_size _ rfl, rfl, rfl⟩, fun b hb => ?_, q⟩
  have e : b = s1.heap.objs.size := by simpa using hb
  subst e
  exact I1.fpOk (Nat.le_refl _) (I1.hok.fresh (Nat.le_refl _))
/-- a range object just made, walked -/
theorem range_it {pins : List (Addr × Obj)} {σ : St} {H : Hp} {s : Shared} {R : It → Hp → Prop} {E : Value → Shared → Prop} {lo hi : Int} {t u v : Tok} {tk : Nat} (I : Inv X pins σ H s) (h1 : -(2 ^ 62) ≤ lo) (h2 : lo < 2 ^ 62) (h3 : -(2 ^ 62) ≤ hi) (h4 : hi < 2 ^ 62)
    (q : R (Itr lo (hi - lo).toNat) H) : wpAny (model X.prog X.w) X.A (pyIter (.ref s.heap.objs.size)) (PIE X pins σ tg R) E { s with heap := s.heap.push { cls := .type "range", data := .fields #[.int lo t, .int hi u, .int 1 v] }, toks := tk } := by
  refine wpAny_pyIter_range (IsRange.new ..) (small_one h1 h2 h3 h4) ?_
  have I1 : Inv X pins σ H { s with heap := s.heap.push { cls := .type "range", data := .fields #[.int lo t, .int hi u, .int 1 v] }, toks := tk } := I.kept fun b o e => Heap.get?_push_of_some _ e
  refine ⟨(s.heap.push { cls := .type "range", data := .fields #[.int lo t, .int hi u, .int 1 v] }).objs.size, [(s.heap.push { cls := .type "range", data := .fields #[.int lo t, .int hi u, .int 1 v] }).objs.size], _, _, H, rfl,
    I1.kept (t' := tk) fun b o e => Heap.get?_push_of_some _ e, turn_range _ lo (hi - lo).toNat, ?_, fun b hb => ?_, q⟩
  · have e1 : lo + ((0 : Nat) : Int) * 1 = lo := by simp
    have e2 : (((hi - lo).toNat : Nat) : Int) - ((0 : Nat) : Int) = Builtin.Range.rangeSize lo hi 1 := by rw [rangeSize_one]; split <;> omega
    show IsRangeIter _ _ (lo + ((0 : Nat) : Int) * 1) ((((hi - lo).toNat : Nat) : Int) - ((0 : Nat) : Int)) 1
    rw [e1, e2]
    exact Heap.get?_push_size _ rfl
  · have e : b = (s.heap.push { cls := .type "range", data := .fields #[.int lo t, .int hi u, .int 1 v] }).objs.size := by simpa using hb
    subst e
    exact I1.fpOk (Nat.le_refl _) (I1.hok.fresh (Nat.le_refl _))
def iRng1 (ta : TA) : TI := fun σ H R => ta σ H fun vs H1 => ∃ j : Int, vs = [.int j] ∧ -(2 ^ 62) ≤ j ∧ j < 2 ^ 62 ∧ R (Itr 0 j.toNat) H1
def iRng2 (ta : TA) : TI := fun σ H R => ta σ H fun vs H1 => ∃ i j : Int, vs = [.int i, .int j] ∧ (-(2 ^ 62) ≤ i ∧ i < 2 ^ 62 ∧ -(2 ^ 62) ≤ j ∧ j < 2 ^ 62) ∧ R (Itr i (j - i).toNat) H1
theorem pi_range1 {a : Expr} {ta : TA} {p pos : Pos} (hg : Gl X "range") (hm : X.mg "range" = none) (ha : PA X [a] ta) (hs : starEach [a] X.env = [(false, eval a X.env)] := by rfl) : PI X tg (.Call (.Name "range" p) [a] [] pos) (iRng1 ta) := by
  intro pins s σ H R I h
  refine Call_ (ld_blt I hg hm boot_range (PyProof.Rows.callWith_type1 (thn (ha pos pins s σ H _ I h) fun us s1 ⟨vs, H1, I1, r1, q1⟩ => ?_) hs rfl))
  obtain ⟨j, e, q1, q2, q⟩ := q1
  subst e
  cases r1 with
  | cons r rr =>
    cases rr
    obtain ⟨t, rfl⟩ := r
    exact call_range_1 (range_it I1 (by omega) (by omega) q1 q2 (by simpa using q))
theorem pi_range2 {a b : Expr} {ta : TA} {p pos : Pos} (hg : Gl X "range") (hm : X.mg "range" = none) (ha : PA X [a, b] ta) (hs : starEach [a, b] X.env = [(false, eval a X.env), (false, eval b X.env)] := by rfl) (hs2 : starEach [b] X.env = [(false, eval b X.env)] := by rfl) :
    PI X tg (.Call (.Name "range" p) [a, b] [] pos) (iRng2 ta) := by
  intro pins s σ H R I h
  refine Call_ (ld_blt I hg hm boot_range (PyProof.Rows.callWith_type1 (thn (ha pos pins s σ H _ I h) fun us s1 ⟨vs, H1, I1, r1, q1⟩ => ?_) (by rw [hs, hs2]) (by rw [hs2]; rfl)))
  obtain ⟨i, j, e, ⟨q1, q2, q3, q4⟩, q⟩ := q1
  subst e
  cases r1 with
  | cons r rr =>
    cases rr with
    | cons r' rr =>
      cases rr
      obtain ⟨t, rfl⟩ := r
      obtain ⟨t', rfl⟩ := r'
      exact call_range_2 (range_it I1 q1 q2 q3 q4 q)

/-! ### for -/
/-- W: the invariant by the turn and a measure; N: what the body is to reach -/
def tFor (wi : TI) (g : TG) (tb : TS) : TS := fun D σ H => wi σ H fun J H1 => ∃ W : Nat → Nat → St → Hp → Prop, (∃ m, W 0 m σ H1) ∧ ∀ i m σ H, W i m σ H →
  (J.stop i H ∧ D.nx σ H) ∨ (J.go i H ∧ ∃ N : St → Hp → Prop, (∀ σ' H', N σ' H' → ∃ m', m' < m ∧ W (i + 1) m' σ' H') ∧ ∀ x H', J.yld i H x H' → g x σ H' fun σ2 H2 => tb { D with nx := N, ct := N, bk := D.nx } σ2 H2)
/-- the records at fp as they stand -/
def pinsAt (fp : List Addr) (h : Heap) : List (Addr × Obj) := fp.filterMap fun b => (h.get? b).map fun o => (b, o)
theorem mem_pinsAt {fp : List Addr} {h : Heap} {b : Addr} {o : Obj} (hb : b ∈ fp) (e : h.get? b = some o) : (b, o) ∈ pinsAt fp h := List.mem_filterMap.mpr ⟨b, hb, by rw [e]; rfl⟩
theorem of_pinsAt {fp : List Addr} {h : Heap} {p : Addr × Obj} (hp : p ∈ pinsAt fp h) : p.1 ∈ fp ∧ h.get? p.1 = some p.2 := by
  obtain ⟨b, hb, e⟩ := List.mem_filterMap.mp hp
  cases q : h.get? b with
  | none => rw [q] at e; cases e
  | some o =>
    rw [q] at e
    have e' : (b, o) = p := Option.some.inj e
    subst e'
    exact ⟨hb, q⟩
theorem Inv.pinned {pins : List (Addr × Obj)} {σ : St} {H : Hp} {s : Shared} {fp : List Addr} (I : Inv X pins σ H s) (hf : ∀ b ∈ fp, FpOk X pins H b) (ho : ∀ b ∈ fp, ∃ o, s.heap.get? b = some o ∧ ∀ v, o.data ≠ .cell v) : Inv X (pins ++ pinsAt fp s.heap) σ H s :=
  I.pins_of fun p hp => (List.mem_append.mp hp).elim (fun z => I.pin p (List.mem_append_right _ z)) fun z => by
    obtain ⟨hb, e⟩ := of_pinsAt z
    obtain ⟨f0, f1, f2, _⟩ := hf p.1 hb
    obtain ⟨o, e', d⟩ := ho p.1 hb
    rw [e] at e'; cases e'
    exact ⟨e, f0, f1, f2, d⟩
theorem Inv.unpinned {pins pl : List (Addr × Obj)} {σ : St} {H : Hp} {s : Shared} (I : Inv X (pins ++ pl) σ H s) : Inv X pins σ H s := I.pins_of fun p hp => I.pin p (List.mem_append_right _ (List.mem_append_left _ hp))
theorem ps_for {iter : Expr} {body : List Stmt} {wi : TI} {g : TG} {tb : TS} {pos : Pos} (hp : PassesOwn (model X.prog X.w) X.A X.env X.xe) (hc : X.calm = true) (hi : PI X tg iter wi) (hg : PG X tg g) (hb : PSs X body tb)
    (hs : ∀ x, foldedSetIterable iter X.env x = pure x := by intro _; rfl) : PS X (.For tg iter body [] pos) (tFor wi g tb) := by
  intro pins s σ H D I h
  refine wpAny_For (thn (hi pins s σ H _ I h) fun v s1 h1 => thn h1 fun itv s2 h2 => ?_) hs
  obtain ⟨it, fp, tn, J, H2, e, I2, T, st2, f2, W, ⟨m0, w0⟩, turn⟩ := h2
  subst e
  -- what stays true of the iterator's objects through the loop
  have stat : ∀ {H' : Hp}, (∀ b ∈ fp, H' b = none) → ∀ b ∈ fp, FpOk X pins H' b := fun hn b hb => ⟨hn b hb, (f2 b hb).2⟩
  refine codeAny_forLoop_any (fun n s' => ∃ i σ' H', Inv X pins σ' H' s' ∧ tn i s'.heap ∧ (∀ b ∈ fp, H' b = none) ∧ W i n σ' H') ?_ m0 ⟨0, σ, H2, I2, st2, fun b hb => (f2 b hb).1, w0⟩
  rintro n s3 ⟨i, σ3, H3, I3, st3, fr3, w3⟩
  rcases turn i n σ3 H3 w3 with ⟨stop, qn⟩ | ⟨go, N, hN, step⟩
  · refine wpAny_passesOwn hp (thn (T.done X rfl rfl rfl hc i pins s3 σ3 H3 X.xe I3 (stat fr3) st3 stop) fun r s4 ⟨hr, I4⟩ => ?_)
    subst hr
    exact wpAny_execs_nil ⟨σ3, H3, I4, qn⟩
  · refine wpAny_passesOwn hp (thn (T.item X rfl rfl rfl hc i pins s3 σ3 H3 X.xe I3 (stat fr3) st3 go) fun r s4 ⟨u, hr, h4⟩ => ?_)
    subst hr
    refine wpAny_passesOwn hp (thn h4 fun _ s5 ⟨x, H5, I5, r5, y5, st5, fr5⟩ => ?_)
    have I5' := I5.pinned (stat fr5) (T.obj _ _ st5)
    refine wpAny_passesOwn hp (thn (hg _ s5 σ3 H5 x u _ I5' r5 (step x H5 y5)) fun _ s6 ⟨σ6, H6, I6, q6⟩ => ?_)
    refine wpAny_passesOwn hp (thn (hb _ s6 σ6 H6 _ I6 q6) fun f s7 q7 => ?_)
    have again : ∀ {σ7 : St} {H7 : Hp}, Inv X (pins ++ pinsAt fp s5.heap) σ7 H7 s7 → N σ7 H7 → ∃ m, m < n ∧ ∃ i σ' H', Inv X pins σ' H' s7 ∧ tn i s7.heap ∧ (∀ b ∈ fp, H' b = none) ∧ W i m σ' H' := fun {σ7 H7} I7 n7 => by
      obtain ⟨m', hm, w7⟩ := hN σ7 H7 n7
      refine ⟨m', hm, i + 1, σ7, H7, I7.unpinned, T.keep _ _ _ st5 fun b hb o e => (I7.pin (b, o) (List.mem_append_right _ (List.mem_append_right _ (mem_pinsAt hb e)))).1, fun b hb => ?_, w7⟩
      obtain ⟨o, e, d⟩ := T.obj _ _ st5 b hb
      exact (I7.pin (b, o) (List.mem_append_right _ (List.mem_append_right _ (mem_pinsAt hb e)))).2.1
    cases f with
    | next => obtain ⟨σ7, H7, I7, n7⟩ := q7; exact again I7 n7
    | cont => obtain ⟨σ7, H7, I7, n7⟩ := q7; exact again I7 n7
    | brk => obtain ⟨σ7, H7, I7, q7⟩ := q7; exact ⟨σ7, H7, I7.unpinned, q7⟩
    | ret v => obtain ⟨x7, σ7, H7, I7, r7, q7⟩ := q7; exact ⟨x7, σ7, H7, I7.unpinned, r7, q7⟩
end

/-! ### the forms one uses -/
/-- over a list that the body leaves as it is -/
theorem for_list {K : PySem.W.Frag} {a : Addr} {xs : List V} {g : TG} {tb : TS} {D : Ends} {σ : St} {H : Hp} (Pv : Nat → St → Hp → Prop) (h0 : Pv 0 σ H) (hl : ∀ i σ H, i ≤ xs.length → Pv i σ H → SqL K H a xs)
    (hs : ∀ i x σ H, xs[i]? = some x → Pv i σ H → g x σ H fun σ2 H2 => tb { D with nx := Pv (i + 1), ct := Pv (i + 1), bk := D.nx } σ2 H2) (hd : ∀ σ H, Pv xs.length σ H → D.nx σ H) :
    ∃ W : Nat → Nat → St → Hp → Prop, (∃ m, W 0 m σ H) ∧ ∀ i m σ H, W i m σ H →
      ((Itl K a).stop i H ∧ D.nx σ H) ∨ ((Itl K a).go i H ∧ ∃ N : St → Hp → Prop, (∀ σ' H', N σ' H' → ∃ m', m' < m ∧ W (i + 1) m' σ' H') ∧ ∀ x H', (Itl K a).yld i H x H' → g x σ H' fun σ2 H2 => tb { D with nx := N, ct := N, bk := D.nx } σ2 H2) := by
  refine ⟨fun i m σ H => m = xs.length - i ∧ i ≤ xs.length ∧ Pv i σ H, ⟨xs.length, by simp, Nat.zero_le _, h0⟩, ?_⟩
  rintro i m σ H ⟨rfl, hi, p⟩
  have q := hl i σ H hi p
  by_cases hlt : i < xs.length
  · refine .inr ⟨⟨xs, xs[i], q, by simp [hlt]⟩, Pv (i + 1), fun σ' H' p' => ⟨xs.length - (i + 1), by omega, rfl, hlt, p'⟩, fun x H' y => ?_⟩
    obtain ⟨e, y⟩ := y
    subst e
    exact hs i x σ _ (y xs q) p
  · have e : i = xs.length := by omega
    subst e
    exact .inl ⟨⟨xs, q, Nat.le_refl _⟩, hd σ H p⟩
theorem for_range {lo : Int} {n : Nat} {g : TG} {tb : TS} {D : Ends} {σ : St} {H : Hp} (Pv : Nat → St → Hp → Prop) (h0 : Pv 0 σ H)
    (hs : ∀ i σ H, i < n → Pv i σ H → g (.int (lo + i)) σ H fun σ2 H2 => tb { D with nx := Pv (i + 1), ct := Pv (i + 1), bk := D.nx } σ2 H2) (hd : ∀ σ H, Pv n σ H → D.nx σ H) :
    ∃ W : Nat → Nat → St → Hp → Prop, (∃ m, W 0 m σ H) ∧ ∀ i m σ H, W i m σ H →
      ((Itr lo n).stop i H ∧ D.nx σ H) ∨ ((Itr lo n).go i H ∧ ∃ N : St → Hp → Prop, (∀ σ' H', N σ' H' → ∃ m', m' < m ∧ W (i + 1) m' σ' H') ∧ ∀ x H', (Itr lo n).yld i H x H' → g x σ H' fun σ2 H2 => tb { D with nx := N, ct := N, bk := D.nx } σ2 H2) := by
  refine ⟨fun i m σ H => m = n - i ∧ i ≤ n ∧ Pv i σ H, ⟨n, by simp, Nat.zero_le _, h0⟩, ?_⟩
  rintro i m σ H ⟨rfl, hi, p⟩
  by_cases hlt : i < n
  · refine .inr ⟨hlt, Pv (i + 1), fun σ' H' p' => ⟨n - (i + 1), by omega, rfl, hlt, p'⟩, fun x H' y => ?_⟩
    obtain ⟨e, y⟩ := y
    subst e y
    exact hs i σ _ hlt p
  · have e : i = n := by omega
    subst e
    exact .inl ⟨Nat.le_refl _, hd σ H p⟩
end L2

namespace L2
open PySem PySem.Spec PyProof.Rows

abbrev R2 := V → V → Hp → VK → Prop
/-- a two-place operation on values: f is binaryOp op, inplaceOp op or compareOp op -/
def OpR (X : Cx) (f : Value → Value → Sem Value) (r : R2) : Prop :=
  ∀ (pins : List (Addr × Obj)) (s : Shared) (σ : St) (H : Hp) (x y : V) (v u : Value) (Q : VK), Inv X pins σ H s → RelV x v → RelV y u → r x y H Q →
    wpAny (model X.prog X.w) X.A (f v u) (EP X pins σ Q) X.xe s
/-- a one-place operation -/
def UnR (X : Cx) (f : Value → Sem Value) (r : V → Hp → VK → Prop) : Prop :=
  ∀ (pins : List (Addr × Obj)) (s : Shared) (σ : St) (H : Hp) (x : V) (v : Value) (Q : VK), Inv X pins σ H s → RelV x v → r x H Q →
    wpAny (model X.prog X.w) X.A (f v) (EP X pins σ Q) X.xe s
/-- a call of a value that is known (a builtin, a type) with values -/
def CallR (X : Cx) (f : Value) (r : List V → Hp → VK → Prop) : Prop :=
  ∀ (pins : List (Addr × Obj)) (s : Shared) (σ : St) (H : Hp) (xs : List V) (us : List Value) (Q : VK), Inv X pins σ H s → Vals xs us → r xs H Q →
    wpAny (model X.prog X.w) X.A (call f us) (EP X pins σ Q) X.xe s
def tOp (r : R2) (ta tb : TE) : TE := fun σ H Q => ta σ H fun x H1 => tb σ H1 fun y H2 => r x y H2 Q
def tUn (r : V → Hp → VK → Prop) (ta : TE) : TE := fun σ H Q => ta σ H fun x H1 => r x H1 Q
/-- ints in, under C, and a value out -/
def rI (C : Int → Int → Prop) (g : Int → Int → V) : R2 := fun x y H Q => ∃ i j, x = .int i ∧ y = .int j ∧ C i j ∧ Q (g i j) H
def rI0 (g : Int → Int → V) : R2 := fun x y H Q => ∃ i j, x = .int i ∧ y = .int j ∧ Q (g i j) H
def rU (g : Int → V) : V → Hp → VK → Prop := fun x H Q => ∃ i, x = .int i ∧ Q (g i) H

section
variable {X : Cx} {a b c : Expr} {ta tb tc : TE} {pos : Pos}

theorem binT (ha : PE X a ta) (hb : PE X b tb) {pins : List (Addr × Obj)} {s : Shared} {σ : St} {H : Hp} {R : V → V → Hp → Prop} (I : Inv X pins σ H s)
    (h : ta σ H fun x H1 => tb σ H1 fun y H2 => R x y H2) {Q : Value → Shared → Prop} {f : Value → Value → Sem Value}
    (hf : ∀ v u s2 x y H2, Inv X pins σ H2 s2 → RelV x v → RelV y u → R x y H2 → wpAny (model X.prog X.w) X.A (f v u) Q X.xe s2) :
    wpAny (model X.prog X.w) X.A (eval a X.env) (fun v s₁ => wpAny (model X.prog X.w) X.A (eval b X.env) (fun u s₂ => wpAny (model X.prog X.w) X.A (f v u) Q X.xe s₂) X.xe s₁) X.xe s := by
  refine thn (ha pins s σ H _ I h) fun v s1 ⟨x, H1, I1, r1, q1⟩ => ?_
  refine thn (hb pins s1 σ H1 _ I1 q1) fun u s2 ⟨y, H2, I2, r2, q2⟩ => ?_
  exact hf v u s2 x y H2 I2 r1 r2 q2

theorem pe_op {op : Operator} {r : R2} (ho : OpR X (binaryOp op) r) (ha : PE X a ta) (hb : PE X b tb) : PE X (.BinOp a op b pos) (tOp r ta tb) := by
  intro pins s σ H Q I h
  exact wpAny_BinOp (binT ha hb I h fun v u s2 x y H2 I2 rx ry q => ho pins s2 σ H2 x y v u Q I2 rx ry q)
theorem pe_un {op : UnaryOp} {r : V → Hp → VK → Prop} (ho : UnR X (unaryOp op) r) (ha : PE X a ta) : PE X (.UnaryOp op a pos) (tUn r ta) := by
  intro pins s σ H Q I h
  exact UnaryOp_ (thn (ha pins s σ H _ I h) fun v s1 ⟨x, H1, I1, r1, q1⟩ => ho pins s1 σ H1 x v Q I1 r1 q1)
/-! ### ints -/
theorem opI {f : Value → Value → Sem Value} {C : Int → Int → Prop} {g : Int → Int → Int}
    (rule : ∀ (i j : Int) (t u : Tok) (s : Shared) (Q : Value → Shared → Prop) (E : Value → Shared → Prop), C i j → Q (.int (g i j) s.toks) { s with toks := s.toks + 1 } → wpAny (model X.prog X.w) X.A (f (.int i t) (.int j u)) Q E s) :
    OpR X f (rI C fun i j => .int (g i j)) := by
  intro pins s σ H x y v u Q I rx ry h
  obtain ⟨i, j, rfl, rfl, hc, q⟩ := h
  obtain ⟨t, rfl⟩ := rx
  obtain ⟨t', rfl⟩ := ry
  exact rule i j t t' s _ _ hc ⟨.int (g i j), H, I.tok _, ⟨_, rfl⟩, q⟩
theorem opI0 {f : Value → Value → Sem Value} {g : Int → Int → Int}
    (rule : ∀ (i j : Int) (t u : Tok) (s : Shared) (Q : Value → Shared → Prop) (E : Value → Shared → Prop), Q (.int (g i j) s.toks) { s with toks := s.toks + 1 } → wpAny (model X.prog X.w) X.A (f (.int i t) (.int j u)) Q E s) :
    OpR X f (rI0 fun i j => .int (g i j)) := by
  intro pins s σ H x y v u Q I rx ry h
  obtain ⟨i, j, rfl, rfl, q⟩ := h
  obtain ⟨t, rfl⟩ := rx
  obtain ⟨t', rfl⟩ := ry
  exact rule i j t t' s _ _ ⟨.int (g i j), H, I.tok _, ⟨_, rfl⟩, q⟩
theorem opB0 {f : Value → Value → Sem Value} {g : Int → Int → Bool}
    (rule : ∀ (i j : Int) (t u : Tok) (s : Shared) (Q : Value → Shared → Prop) (E : Value → Shared → Prop), Q (.bool (g i j)) s → wpAny (model X.prog X.w) X.A (f (.int i t) (.int j u)) Q E s) :
    OpR X f (rI0 fun i j => .bl (g i j)) := by
  intro pins s σ H x y v u Q I rx ry h
  obtain ⟨i, j, rfl, rfl, q⟩ := h
  obtain ⟨t, rfl⟩ := rx
  obtain ⟨t', rfl⟩ := ry
  exact rule i j t t' s _ _ ⟨.bl (g i j), H, I, rfl, q⟩

def CDiv (i j : Int) : Prop := 0 < j ∧ j < 1073741824
def CPow (i j : Int) : Prop := 0 ≤ j ∧ j ≤ 1000000 ∧ i.natAbs < 2 ^ 64
def CMul (i j : Int) : Prop := (-(2 ^ 64) < i ∧ i < 2 ^ 64) ∨ (-(2 ^ 64) < j ∧ j < 2 ^ 64)
theorem CMul.ok {i j : Int} (h : CMul i j) : IntMulOk i j := by
  rcases h with ⟨h1, h2⟩ | ⟨h1, h2⟩
  · exact .of_left (intBits_le_64 h1 h2)
  · exact .of_right (intBits_le_64 h1 h2)
theorem op_add : OpR X (binaryOp .Add) (rI0 fun i j => .int (i + j)) := opI0 fun _ _ _ _ _ _ _ q => add_int q
theorem op_sub : OpR X (binaryOp .Sub) (rI0 fun i j => .int (i - j)) := opI0 fun _ _ _ _ _ _ _ q => sub_int q
theorem op_mul : OpR X (binaryOp .Mult) (rI CMul fun i j => .int (i * j)) := opI fun _ _ _ _ _ _ _ hc q => mul_int q hc.ok
/-- // by a positive divisor -/
theorem op_fdiv : OpR X (binaryOp .FloorDiv) (rI CDiv fun i j => .int (i / j)) := opI fun i j _ _ _ _ _ hc q => by
  have h1 : (0 : Int) < j := hc.1
  have h2 : j < 1073741824 := hc.2
  exact floordiv_int (by omega) (by rw [Int.fdiv_eq_ediv_of_nonneg i (by omega)]; exact q) (.inl (PyProof.noPylong_small (by omega)))
/-- % by a positive divisor of any size -/
theorem op_mod : OpR X (binaryOp .Mod) (rI (fun _ j => 0 < j) fun i j => .int (i % j)) := opI fun i j _ _ _ _ _ hc q => by
  have h1 : (0 : Int) < j := hc
  exact mod_int' (by omega) (by rw [Int.fmod_eq_emod_of_nonneg i (by omega)]; exact q)
theorem op_pow : OpR X (binaryOp .Pow) (rI CPow fun i j => .int (i ^ j.toNat)) := opI fun _ _ _ _ _ _ _ hc q => pow_int_small hc.1 hc.2.1 hc.2.2 q
theorem unI {f : Value → Sem Value} {g : Int → Int}
    (rule : ∀ (i : Int) (t : Tok) (s : Shared) (Q : Value → Shared → Prop) (E : Value → Shared → Prop), Q (.int (g i) s.toks) { s with toks := s.toks + 1 } → wpAny (model X.prog X.w) X.A (f (.int i t)) Q E s) :
    UnR X f (rU fun i => .int (g i)) := by
  intro pins s σ H x v Q I rx h
  obtain ⟨i, rfl, q⟩ := h
  obtain ⟨t, rfl⟩ := rx
  exact rule i t s _ _ ⟨.int (g i), H, I.tok _, ⟨_, rfl⟩, q⟩
theorem un_neg : UnR X (unaryOp .USub) (rU fun i => .int (-i)) := unI fun _ _ _ _ _ q => neg_int q
/-! ### bools among ints: n += (a < b) -/
end

/-! ### comparisons -/
/-- the scalars that == tells apart as data does -/
def scal : V → V → Bool
  | .non, .non => true | .non, .int _ => true | .int _, .non => true | .non, .bl _ => true | .bl _, .non => true | .non, .str _ => true | .str _, .non => true
  | .int _, .int _ => true | .bl _, .bl _ => true | .str _, .str _ => true | .byt _, .byt _ => true
  | .int _, .str _ => true | .str _, .int _ => true | .bl _, .str _ => true | .str _, .bl _ => true
  | _, _ => false
def rEq : R2 := fun x y H Q => scal x y = true ∧ Q (.bl (decide (x = y))) H
def rNe : R2 := fun x y H Q => scal x y = true ∧ Q (.bl (!decide (x = y))) H

theorem dec_int {i j : Int} : decide (V.int i = V.int j) = (i == j) := by
  rw [Bool.eq_iff_iff]
  simp
theorem dec_bl {i j : Bool} : decide (V.bl i = V.bl j) = (i == j) := by
  rw [Bool.eq_iff_iff]
  simp
theorem dec_str {i j : Str} : decide (V.str i = V.str j) = (i == j) := by
  rw [Bool.eq_iff_iff]
  simp
theorem dec_byt {i j : Array UInt8} : decide (V.byt i = V.byt j) = (i.toList == j.toList) := by
  rw [Bool.eq_iff_iff]
  cases i
  cases j
  simp

section
variable {X : Cx} {a b c : Expr} {ta tb tc : TE} {pos : Pos}
theorem fin_bl {pins : List (Addr × Obj)} {σ : St} {H : Hp} {s : Shared} {Q : VK} {k k' : Bool} (I : Inv X pins σ H s) (q : Q (.bl k) H) (e : k = k') : EP X pins σ Q (.bool k') s := by
  subst e
  exact ⟨.bl k, H, I, rfl, q⟩
theorem op_eq : OpR X (compareOp .Eq) rEq := by
  intro pins s σ H x y v u Q I rx ry h
  obtain ⟨hs, q⟩ := h
  cases x with
  | non =>
    cases rx
    cases y with
    | non => cases ry; exact PySem.EqNone.eq_none_none (fin_bl I q (by simp))
    | bl j => cases ry; exact PySem.EqNone.eq_none_bool (fin_bl I q (by simp))
    | int j => obtain ⟨t', rfl⟩ := ry; exact PySem.EqNone.eq_none_int (fin_bl I q (by simp))
    | str j => obtain ⟨t', rfl⟩ := ry; exact PySem.EqNone.eq_none_str (fin_bl I q (by simp))
    | _ => exact absurd (show false = true from hs) Bool.false_ne_true
  | bl i =>
    cases rx
    cases y with
    | non => cases ry; exact PySem.EqNone.eq_bool_none (fin_bl I q (by simp))
    | bl j => cases ry; exact eq_bool (fin_bl I q dec_bl)
    | str j => obtain ⟨t', rfl⟩ := ry; exact PySem.EqMixed.eq_bool_str (fin_bl I q (by simp))
    | _ => exact absurd (show false = true from hs) Bool.false_ne_true
  | int i =>
    obtain ⟨t, rfl⟩ := rx
    cases y with
    | non => cases ry; exact PySem.EqNone.eq_int_none (fin_bl I q (by simp))
    | int j => obtain ⟨t', rfl⟩ := ry; exact eq_int (fin_bl I q dec_int)
    | str j => obtain ⟨t', rfl⟩ := ry; exact PySem.EqMixed.eq_int_str (fin_bl I q (by simp))
    | _ => exact absurd (show false = true from hs) Bool.false_ne_true
  | str i =>
    obtain ⟨t, rfl⟩ := rx
    cases y with
    | non => cases ry; exact PySem.EqNone.eq_str_none (fin_bl I q (by simp))
    | bl j => cases ry; exact PySem.EqMixed.eq_str_bool (fin_bl I q (by simp))
    | int j => obtain ⟨t', rfl⟩ := ry; exact PySem.EqMixed.eq_str_int (fin_bl I q (by simp))
    | str j => obtain ⟨t', rfl⟩ := ry; exact eq_str (fin_bl I q dec_str)
    | _ => exact absurd (show false = true from hs) Bool.false_ne_true
  | byt i =>
    obtain ⟨t, rfl⟩ := rx
    cases y with
    | byt j => obtain ⟨t', rfl⟩ := ry; exact PySem.W.eq_bytes (fin_bl I q dec_byt)
    | _ => exact absurd (show false = true from hs) Bool.false_ne_true
  | _ => cases y <;> exact absurd (show false = true from hs) Bool.false_ne_true
theorem op_ne : OpR X (compareOp .NotEq) rNe := by
  intro pins s σ H x y v u Q I rx ry h
  obtain ⟨hs, q⟩ := h
  cases x with
  | non =>
    cases rx
    cases y with
    | non => cases ry; exact PySem.EqNone.ne_none_none (fin_bl I q (by simp))
    | bl j => cases ry; exact PySem.EqNone.ne_none_bool (fin_bl I q (by simp))
    | int j => obtain ⟨t', rfl⟩ := ry; exact PySem.EqNone.ne_none_int (fin_bl I q (by simp))
    | str j => obtain ⟨t', rfl⟩ := ry; exact PySem.EqNone.ne_none_str (fin_bl I q (by simp))
    | _ => exact absurd (show false = true from hs) Bool.false_ne_true
  | bl i =>
    cases rx
    cases y with
    | non => cases ry; exact PySem.EqNone.ne_bool_none (fin_bl I q (by simp))
    | bl j => cases ry; exact ne_bool (fin_bl I q (congrArg not dec_bl))
    | str j => obtain ⟨t', rfl⟩ := ry; exact PySem.EqMixed.ne_bool_str (fin_bl I q (by simp))
    | _ => exact absurd (show false = true from hs) Bool.false_ne_true
  | int i =>
    obtain ⟨t, rfl⟩ := rx
    cases y with
    | non => cases ry; exact PySem.EqNone.ne_int_none (fin_bl I q (by simp))
    | int j => obtain ⟨t', rfl⟩ := ry; exact ne_int (fin_bl I q (congrArg not dec_int))
    | str j => obtain ⟨t', rfl⟩ := ry; exact PySem.EqMixed.ne_int_str (fin_bl I q (by simp))
    | _ => exact absurd (show false = true from hs) Bool.false_ne_true
  | str i =>
    obtain ⟨t, rfl⟩ := rx
    cases y with
    | non => cases ry; exact PySem.EqNone.ne_str_none (fin_bl I q (by simp))
    | bl j => cases ry; exact PySem.EqMixed.ne_str_bool (fin_bl I q (by simp))
    | int j => obtain ⟨t', rfl⟩ := ry; exact PySem.EqMixed.ne_str_int (fin_bl I q (by simp))
    | str j => obtain ⟨t', rfl⟩ := ry; exact ne_str (fin_bl I q (congrArg not dec_str))
    | _ => exact absurd (show false = true from hs) Bool.false_ne_true
  | byt i =>
    obtain ⟨t, rfl⟩ := rx
    cases y with
    | byt j => obtain ⟨t', rfl⟩ := ry; exact PySem.W.ne_bytes (fin_bl I q (congrArg not dec_byt))
    | _ => exact absurd (show false = true from hs) Bool.false_ne_true
  | _ => cases y <;> exact absurd (show false = true from hs) Bool.false_ne_true

theorem op_lt : OpR X (compareOp .Lt) (rI0 fun i j => .bl (decide (i < j))) := opB0 fun _ _ _ _ _ _ _ q => lt_int q
theorem op_le : OpR X (compareOp .LtE) (rI0 fun i j => .bl (decide (i ≤ j))) := opB0 fun _ _ _ _ _ _ _ q => le_int q
theorem op_gt : OpR X (compareOp .Gt) (rI0 fun i j => .bl (decide (j < i))) := opB0 fun _ _ _ _ _ _ _ q => gt_int q
theorem op_ge : OpR X (compareOp .GtE) (rI0 fun i j => .bl (decide (j ≤ i))) := opB0 fun _ _ _ _ _ _ _ q => ge_int q
theorem nomark (b : Expr) {op : CmpOp} (h : op ≠ .In := by decide) (h2 : op ≠ .NotIn := by decide) : behindInMarks op b = false := by
  have e1 : (op == CmpOp.In) = false := by cases op <;> first | rfl | exact absurd rfl h
  have e2 : (op == CmpOp.NotIn) = false := by cases op <;> first | rfl | exact absurd rfl h2
  cases b <;> first | rfl | (show (_ && (op == CmpOp.In || op == CmpOp.NotIn) && _) = false; rw [e1, e2, Bool.or_self, Bool.and_false, Bool.false_and])
/-- a comparison as a value; hm: nomark b, or (for in, not in) by with_unfolding_all rfl -/
theorem pe_cmpR {op : CmpOp} {r : R2} (ho : OpR X (compareOp op) r) (ha : PE X a ta) (hb : PE X b tb) (hm : behindInMarks op b = false) : PE X (.Compare a [op] [b] pos) (tOp r ta tb) := by
  intro pins s σ H Q I h
  exact wpAny_Compare1 (binT ha hb I h fun v u s2 x y H2 I2 rx ry q => ho pins s2 σ H2 x y v u Q I2 rx ry q) hm
/-- a reading of a value as a test -/
def tTest (t : TE) : TT := fun σ H Q => t σ H fun x H' => ∃ k, x = .bl k ∧ Q k H'
theorem pt_cmpR {op : CmpOp} {r : R2} (ho : OpR X (compareOp op) r) (ha : PE X a ta) (hb : PE X b tb) (hm : behindInMarks op b = false) : PT X (.Compare a [op] [b] pos) (tTest (tOp r ta tb)) := by
  intro pins s σ H Q I h
  refine wpAny_isTrue_Compare1 (thn (ha pins s σ H _ I h) fun v s1 ⟨x, H1, I1, r1, q1⟩ => thn (hb pins s1 σ H1 _ I1 q1) fun u s2 ⟨y, H2, I2, r2, q2⟩ =>
    thn (ho pins s2 σ H2 x y v u _ I2 r1 r2 q2) fun c s3 ⟨z, H3, I3, r3, k, e, q3⟩ => ?_) hm
  subst e
  cases r3
  exact wpAny_truthy_bool ⟨H3, I3, q3⟩
/-! ### truth -/
theorem line63 : (sizeLine : Nat) < 2 ^ 63 := by rw [sizeLine_eq]; decide
/-! ### strs and bytes -/
/-! ### scalar builtins, by CallR -/
theorem vals1 {x : V} {us : List Value} (r : Vals [x] us) : ∃ u, us = [u] ∧ RelV x u := by
  cases r with
  | cons r1 r2 => cases r2; exact ⟨_, rfl, r1⟩
theorem vals2 {x y : V} {us : List Value} (r : Vals [x, y] us) : ∃ u w', us = [u, w'] ∧ RelV x u ∧ RelV y w' := by
  cases r with
  | cons r1 r2 =>
    cases r2 with
    | cons r3 r4 => cases r4; exact ⟨_, _, rfl, r1, r3⟩
theorem call_int1 : CallR X (.type "int") (fun xs H Q => (∃ i, xs = [.int i] ∧ Q (.int i) H) ∨ ∃ k, xs = [.bl k] ∧ Q (.int (if k then 1 else 0)) H) := by
  intro pins s σ H xs us Q I r h
  rcases h with ⟨i, rfl, q⟩ | ⟨k, rfl, q⟩
  · obtain ⟨u, rfl, t, rfl⟩ := vals1 r
    exact call_int_int ⟨.int i, H, I, ⟨_, rfl⟩, q⟩
  · obtain ⟨u, rfl, r1⟩ := vals1 r
    cases r1
    exact call_int_bool ⟨.int (if k then 1 else 0), H, I.tok _, ⟨_, rfl⟩, q⟩
end
end L2

namespace L2
open PySem PySem.Spec PyProof.Rows

/-! ### an instance, its attributes a map -/
structure ObjM (h : Heap) (x dx C : Addr) (mA : Str → Option Value) : Prop where
  obj : h.get? x = some (PySem.W.instObj C dx)
  ns : h.Ns1 dx mA
  ne : dx ≠ x

theorem lookIn_ns {h : Heap} {dx : Addr} {mA : Str → Option Value} (n : h.Ns1 dx mA) : ∃ od, h.get? dx = some od ∧ ∀ name, PySem.W.lookIn name od = some (mA name) := by
  obtain ⟨o, es, ep, ho, hd, hk, _, hm⟩ := n
  refine ⟨o, ho, fun name => ?_⟩
  have e := hm name
  unfold nsFind findBy at e
  rw [← Array.find?_toList] at e
  unfold PySem.W.lookIn
  rw [hd]
  dsimp only
  split
  · rename_i y q
    rw [q] at e
    exact congrArg some e
  · rename_i q
    rw [q] at e
    have a : es.toList.any (·.refKey) = false := by
      rw [List.any_eq_false]
      intro y hy
      obtain ⟨z, t, hkey⟩ := hk y (Array.mem_toList_iff.mp hy)
      simp [DictEntry.refKey, hkey]
    have a' : ¬ es.toList.any (·.refKey) = true := by rw [a]; exact Bool.false_ne_true
    rw [if_neg a']
    exact congrArg some e

theorem ObjM.look {h : Heap} {x dx C : Addr} {mA : Str → Option Value} (I : ObjM h x dx C mA) : ∃ od, PySem.W.InstAt h x (PySem.W.instObj C dx) C (some od) ∧ ∀ name, PySem.W.lookIn name od = some (mA name) :=
  let ⟨od, ho, hl⟩ := lookIn_ns I.ns
  ⟨od, ⟨I.obj, rfl, rfl, ho⟩, hl⟩

section
variable {prog : Program} {w : World} {A : Around} {E : Value → Shared → Prop} {s : Shared} {K : PySem.W.Frag} {x dx C f : Addr} {mA : Str → Option Value} {name : Str} {v : Value}

end

/-! ### the attributes as a list of pairs -/
theorem RelO.some_of {v : V} {o : Option Value} (r : RelO (some v) o) : ∃ u, o = some u ∧ RelV v u := by
  cases o with
  | none => exact (show False from r).elim
  | some u => exact ⟨u, rfl, r⟩
section
variable {P : Program} {w : World} {H H' : Hp} {h h' : Heap} {a C dx : Addr} {fs fs' : List (Str × V)}
theorem ins_get (hok : HOk P w H h) (e : H a = some (.ins C dx fs)) : ∃ mA, ObjM h a dx C mA ∧ (∀ f, RelO (fs.lookup f) (mA f)) ∧ PySem.Within mA (fs.map (·.1)) ∧ fs.length ≤ 1000 ∧ H dx = some (.own a) := by
  obtain ⟨d, z, ne, ob, mA, n, r, q⟩ := (show ObjOk P w H h a (.ins C dx fs) from hok a _ e)
  exact ⟨mA, ⟨ob, n, ne⟩, r, q, z, d⟩
end

/-! ### what of the text a class must have -/
structure Cls (K : PySem.W.Frag) (C : Addr) : Prop where
  pg : PySem.W.plainGet K C Str.empty = true
  hd : PySem.W.hasDictIn K C = true
  po : PySem.W.plainOver K C = true
  sa : PySem.W.findIn K (.ref C) "__setattr__" = some (some (.builtin "object.__setattr__"))
theorem Cls.get {K : PySem.W.Frag} {C : Addr} (c : Cls K C) (f : Str) : PySem.W.plainGet K C f = true := c.pg
section
variable {X : Cx} {pins : List (Addr × Obj)} {σ : St} {H : Hp} {s : Shared} {a C dx : Addr} {fs : List (Str × V)} {f : Str} {v : V} {A : Around} {E : Value → Shared → Prop}

end

/-! ### readings and rules -/
section
variable {X : Cx} {o e value : Expr} {f : Str} {pos pos' tpos : Pos} {ta tv : TE}
end

/-! ### isinstance -/
section
variable {X : Cx} {pins : List (Addr × Obj)} {σ : St} {H : Hp} {s : Shared} {A : Around} {E : Value → Shared → Prop} {Q : Value → Shared → Prop} {c : Value} {b : Bool}
/-- the type of a value, as the fragment's deciders take it; for an instance its class -/
inductive TyOf (K : PySem.W.Frag) (H : Hp) : V → Value → Prop where
  | non : TyOf K H .non (.type "NoneType")
  | bl (x : Bool) : TyOf K H (.bl x) (.type "bool")
  | int (i : Int) : TyOf K H (.int i) (.type "int")
  | str (x : Str) : TyOf K H (.str x) (.type "str")
  | flt (x : UInt64) : TyOf K H (.flt x) (.type "float")
  | lst {a : Addr} {xs : List V} (e : H a = some (.lst xs)) : TyOf K H (.ref a) (.type "list")
  | frz {a : Addr} {o : Obj} {xs : List V} (e : H a = some (.frz o (.lst xs))) : TyOf K H (.ref a) (.type "list")
  | tup {a : Addr} {xs : List V} (e : H a = some (.tup xs)) : TyOf K H (.ref a) (.type "tuple")
  | dK {a : Addr} {kvs : List (Key × V)} (e : H a = some (.dK kvs)) : TyOf K H (.ref a) (.type "dict")
  | dT {a : Addr} {kvs : List (List Key × V)} (e : H a = some (.dT kvs)) : TyOf K H (.ref a) (.type "dict")
  | ins {a C dx : Addr} {fs : List (Str × V)} (e : H a = some (.ins C dx fs)) (cl : Cls K C) (ha : PySem.W.findIn K (.ref C) "__class__" = some (some (.builtin "object.__class__")))
      (hn : PySem.W.specialIn K (.builtin "object.__class__") "__get__" = some (some (.builtin "getset_descriptor.__get__"))) (htk : PySem.W.takesIn K (.builtin "object.__class__") = some true)
      (hm : PySem.W.mroIn K C (.type "object") = some true) : TyOf K H (.ref a) (.ref C)
/-- isinstance(x, c) for one class c, a built-in or an own one: kitOne's answer -/
theorem isinst_ok {x : V} {u t : Value} (I : Inv X pins σ H s) (rx : RelV x u) (ty : TyOf X.K H x t) (e : PySem.W.kitOne X.K t c = some b) (h : ∀ tk, Q (.bool b) { s with toks := tk }) :
    wpAny (model X.prog X.w) A (call (.builtin "isinstance") [u, c]) Q E s := by
  cases ty with
  | non => cases (show u = Value.none from rx); exact PySem.W.kia_one PySem.W.kitx_none I.kIn True.intro e (fun z => nomatch z) h
  | bl y => cases (show u = Value.bool y from rx); exact PySem.W.kia_one PySem.W.kitx_bool I.kIn True.intro e (fun z => nomatch z) h
  | int i => obtain ⟨t, q⟩ := (show ∃ t, u = Value.int i t from rx); cases q; exact PySem.W.kia_one PySem.W.kitx_int I.kIn True.intro e (fun z => nomatch z) h
  | str y => obtain ⟨t, q⟩ := (show ∃ t, u = Value.str y t from rx); cases q; exact PySem.W.kia_one PySem.W.kitx_str I.kIn True.intro e (fun z => nomatch z) h
  | flt y => obtain ⟨t, q⟩ := (show ∃ t, u = Value.float y t from rx); cases q; exact PySem.W.kia_one PySem.W.kitx_float I.kIn True.intro e (fun z => nomatch z) h
  | @lst a xs ea =>
    cases (show u = Value.ref a from rx)
    obtain ⟨_, _, n, _, h1⟩ := (show ObjOk X.prog X.w H s.heap a (.lst xs) from I.hok a _ ea)
    exact PySem.W.kia_one PySem.W.kitx_list I.kIn ⟨_, h1, rfl⟩ e (fun z => nomatch z) h
  | @frz a ob xs ea =>
    cases (show u = Value.ref a from rx)
    obtain ⟨_, _, _, n, _, h1⟩ := (show ObjOk X.prog X.w H s.heap a (.frz ob (.lst xs)) from I.hok a _ ea)
    exact PySem.W.kia_one PySem.W.kitx_list I.kIn ⟨_, h1, rfl⟩ e (fun z => nomatch z) h
  | @tup a xs ea =>
    cases (show u = Value.ref a from rx)
    obtain ⟨_, _, _, p⟩ := (show ObjOk X.prog X.w H s.heap a (.tup xs) from I.hok a _ ea)
    obtain ⟨o, h1, h2, _⟩ := p
    exact PySem.W.kia_one PySem.W.kitx_tuple I.kIn ⟨o, h1, h2⟩ e (fun z => nomatch z) h
  | @dK a kvs ea =>
    cases (show u = Value.ref a from rx)
    obtain ⟨_, _, vs, _, p⟩ := (show ObjOk X.prog X.w H s.heap a (.dK kvs) from I.hok a _ ea)
    obtain ⟨o, es, ep, h1, h2, _⟩ := p
    exact PySem.W.kia_one PySem.W.kitx_dict I.kIn ⟨o, h1, h2.1⟩ e (fun z => nomatch z) h
  | @dT a kvs ea =>
    cases (show u = Value.ref a from rx)
    obtain ⟨_, _, xs, _, o, es, ep, h1, h2, _⟩ := (show ObjOk X.prog X.w H s.heap a (.dT kvs) from I.hok a _ ea)
    exact PySem.W.kia_one PySem.W.kitx_dict I.kIn ⟨o, h1, h2.1⟩ e (fun z => nomatch z) h
  | @ins a C dx fs ea cl ha hn htk hm =>
    cases (show u = Value.ref a from rx)
    obtain ⟨mA, O, _⟩ := ins_get I.hok ea
    obtain ⟨od, J, _⟩ := O.look
    exact PySem.W.kia_one (PySem.W.kitx_own (cl.get _) cl.hd ha hn htk hm) I.kIn J e (fun z => nomatch z) h
end
end L2

namespace L2
open PySem PySem.Spec PyProof.Rows

/-! ### room -/
structure Room (k : Nat) (A : Around) : Prop where
  hd : A.handled = none
  dp : A.depth + 3 * k + 5 < recursionLimit
  un : A.units + 16 * k + 200 < cLine
theorem Room.mono {j k : Nat} {A : Around} (r : Room k A) (h : j ≤ k) : Room j A := ⟨r.hd, by have := r.dp; omega, by have := r.un; omega⟩
theorem Room.deeper {k : Nat} {A : Around} (r : Room (k + 1) A) (env : Env) : Room k (A.deeper env) :=
  ⟨r.hd, by have := r.dp; show A.depth + 1 + 3 * k + 5 < _; omega, by have := r.un; show A.units + 3 + 16 * k + 200 < _; omega⟩
theorem Room.depth {k : Nat} {A : Around} (r : Room k A) : A.depth < recursionLimit := by have := r.dp; omega
theorem Room.units {k : Nat} {A : Around} (r : Room k A) : A.units + 64 < cLine := by have := r.un; omega
/-! ### argument lists and displays -/
def tNil : TA := fun _ H Q => Q [] H
def tCons (ta : TE) (tr : TA) : TA := fun σ H Q => ta σ H fun x H1 => tr σ H1 fun xs H2 => Q (x :: xs) H2
section
variable {X : Cx} {e : Expr} {es : List Expr} {te : TE} {t : TA} {pos : Pos}
theorem pa_nil : PA X [] tNil := fun _ _ _ _ H Q I h => Calls.spliced_nil ⟨[], H, I, .nil, h⟩
theorem pa_cons (ha : PE X e te) (hr : PA X es t) (hs : starEach (e :: es) X.env = (false, eval e X.env) :: starEach es X.env := by rfl) : PA X (e :: es) (tCons te t) := by
  intro pos pins s σ H Q I h
  rw [hs]
  show wpAny _ _ (spliced ((false, eval e X.env) :: backTo pos (starEach es X.env))) _ _ s
  refine Calls.spliced_cons (thn (ha pins s σ H _ I h) fun u s1 ⟨x, H1, I1, r1, q1⟩ => ?_)
  exact thn (hr pos pins s1 σ H1 _ I1 q1) fun us s2 ⟨xs, H2, I2, r2, q2⟩ => ⟨x :: xs, H2, I2, .cons r1 r2, q2⟩

end

/-! ### what a def promises -/
/-- a def's promise: the bound arguments in the parameters' order, the heap, the wanted end, the wanted exception -/
abbrev Sp := List V → Hp → VK → XK → Prop
/-- how an exception lies behind a call (file 08 gives it): the callers' frames, abstract heap and state ahead of the call, the wish, the exception, the state -/
abbrev CXT := List Env → Hp → Shared → XK → Value → Shared → Prop

/-- the state at a call -/
structure Env0 (P : Program) (w : World) (K : PySem.W.Frag) (mg : Str → Option Value) (base : Heap) (A : Around) (outer : List Env) (s : Shared) (H : Hp) : Prop where
  frames : A.frames = some outer
  mod : Mod K mg base
  bs : ∀ b o, base.get? b = some o → s.heap.get? b = some o ∧ H b = none
  bsz : base.objs.size ≤ s.heap.objs.size
  funs : s.heap.FunFrames base outer
  frf : ∀ b ∈ frs outer, H b = none
  hok : HOk P w H s.heap
  bare : AllBare s.gens
/-- a call's end -/
def CE (outer : List Env) (P : Program) (w : World) (H : Hp) (s : Shared) (Q : VK) (u : Value) (s' : Shared) : Prop :=
  ∃ v H', s'.os = s.os ∧ AllBare s'.gens ∧ Un (frs outer) [] H H' s.heap s'.heap ∧ HOk P w H' s'.heap ∧ RelV v u ∧ Q v H'
def CR (CX : CXT) (outer : List Env) (P : Program) (w : World) (H : Hp) (s : Shared) (Q : VK) (E : XK) (r : Result) (s' : Shared) : Prop :=
  match r with
  | .ok (.ret u) => CE outer P w H s Q u s'
  | .ok _ => False
  | .error e => CX outer H s E e s'
structure FnOk (P : Program) (w : World) (K : PySem.W.Frag) (mg : Str → Option Value) (base : Heap) (CX : CXT) (k : Nat) (f : Addr) (fd : FuncData) (ps : List Str) (sp : Sp) : Prop where
  len : ∀ vs H Q E, sp vs H Q E → vs.length = ps.length
  run : ∀ (A : Around) (outer : List Env) (s : Shared) (H : Hp) (args : Args) (us : List Value) (vs : List V) (Q : VK) (E : XK), Room k A → Env0 P w K mg base A outer s H → BindsTo s fd args (ps.zip us) → Vals vs us → sp vs H Q E →
    codeAny (model P w) A (.call (.ref f) args) (CR CX outer P w H s Q E) s
section
variable {X : Cx} {pins : List (Addr × Obj)} {σ : St} {H : Hp} {s s' : Shared}
/-- from a body: what a callee wants -/
theorem Inv.env0 (I : Inv X pins σ H s) : Env0 X.prog X.w X.K X.mg X.base X.A X.stack s H :=
  ⟨I.ok.frames, I.ok.mod, I.bs, Nat.le_trans I.ok.bsz I.sz, I.stack, I.stkFree, I.hok, I.bare⟩
/-- behind a call -/
theorem Inv.after {Q : VK} {u : Value} (I : Inv X pins σ H s) (h : CE X.stack X.prog X.w H s Q u s') : EP X pins σ Q u s' := by
  obtain ⟨v, H', os, bare, un, hok, r, q⟩ := h
  obtain ⟨hh, g, d, t, os'⟩ := s'
  obtain rfl : os' = s.os := os
  exact ⟨v, H', I.call (h' := hh) (g' := g) (d' := d) (t' := t) (ch := []) un hok bare (fun b z => absurd z (by simp)), r, q⟩
end

/-! ### calls -/
/-- f(..): the written arguments, then the defaults dvs; E: what is wanted of an exception -/
def tCall (sp : Sp) (dvs : List V) (E : XK) (t : TA) : TE := fun σ H Q => t σ H fun vs H1 => sp (vs ++ dvs) H1 Q E
/-- how the parameters are bound: us the positional arguments, kw the keywords' values by name, ds the defaults that fill up -/
def Binds (K : PySem.W.Frag) (fd : FuncData) (ps : List Str) (ds : List Value) : Prop :=
  ∀ (s : Shared) (us : List Value), K.In s.heap → (us ++ ds).length = ps.length → BindsTo s fd ⟨us, []⟩ (ps.zip (us ++ ds))
/-- every parameter is given -/
theorem Binds.all {K : PySem.W.Frag} {fd : FuncData} {ps : List Str} (h : ∀ us : List Value, us.length = ps.length → bindArgs fd ⟨us, []⟩ = pure (ps.zip us)) : Binds K fd ps [] := fun s us _ hl => by
  rw [List.append_nil] at hl ⊢
  exact .of_eq (h us hl)

/-- an exception of a callee reaches what this body wants of exceptions -/
def Passes (CX : CXT) (X : Cx) (E : XK) : Prop := ∀ (pins : List (Addr × Obj)) (σ : St) (H : Hp) (s : Shared) (e : Value) (s' : Shared), Inv X pins σ H s → CX X.stack H s E e s' → X.xe e s'

section
variable {X : Cx} {CX : CXT} {k : Nat} {f C : Addr} {fd : FuncData} {ps : List Str} {sp : Sp} {dvs : List V} {ds : List Value} {E : XK} {x m : Str} {p pos apos : Pos} {e o : Expr} {es : List Expr} {ta : TE} {t : TA}

/-- the callee runs -/
theorem run_fn {pins : List (Addr × Obj)} {σ : St} {H : Hp} {s : Shared} {Q : VK} {us : List Value} {vs : List V} (F : FnOk X.prog X.w X.K X.mg X.base CX k f fd ps sp) (hr : Room k X.A) (hb : Binds X.K fd ps ds) (hd : Vals dvs ds) (hx : Passes CX X E)
    (I : Inv X pins σ H s) (r : Vals vs us) (h : sp (vs ++ dvs) H Q E) : wpAny (model X.prog X.w) X.A (call (.ref f) us) (EP X pins σ Q) X.xe s := by
  have r2 : Vals (vs ++ dvs) (us ++ ds) := r.append hd
  have hl : (us ++ ds).length = ps.length := by rw [← r2.length]; exact F.len _ _ _ _ h
  refine wpAny_call (codeAny_mono (F.run X.A X.stack s H ⟨us, []⟩ (us ++ ds) (vs ++ dvs) Q E hr I.env0 (hb s us I.kIn hl) r2 h) fun r s' hq => ?_)
  cases r with
  | error e => exact hx pins σ H s e s' I hq
  | ok fl =>
    cases fl with
    | ret u => exact I.after hq
    | next => exact False.elim hq
    | brk => exact False.elim hq
    | cont => exact False.elim hq

theorem pe_call (F : FnOk X.prog X.w X.K X.mg X.base CX k f fd ps sp) (hr : Room k X.A) (hg : Gl X x) (hm : X.mg x = some (.ref f)) (hk : PySem.W.keepIn X.K (.ref f) = true) (hb : Binds X.K fd ps ds) (hd : Vals dvs ds) (hx : Passes CX X E)
    (ha : PA X (e :: es) t) (hdb : (x == ("__debug__" : Str)) = false := by decide) (he : starEach (e :: es) X.env = (false, eval e X.env) :: starEach es X.env := by rfl) (hpl : (backTo pos (starEach es X.env)).any (·.1) = false := by rfl) :
    PE X (.Call (.Name x p) (e :: es) [] pos) (tCall sp dvs E t) := by
  intro pins s σ H Q I h
  refine wpAny_Call_Name_kw (ld_glob I hg hm ?_ hdb)
  refine PySem.W.callWith_K (h₀ := X.base) I.ok.mod.kin hk (thn (ha pos pins s σ H _ I h) fun us s1 ⟨vs, H1, I1, r, q⟩ => ⟨I1.kIn, ?_⟩) he hpl
  exact run_fn F hr hb hd hx I1 r q
end

/-! ### keywords -/
/-- the values of the keywords, from the left -/
def PK (X : Cx) (kws : List Keyword) (t : TA) : Prop :=
  ∀ (pos : Pos) (pins : List (Addr × Obj)) (s : Shared) (σ : St) (H : Hp) (Q : List V → Hp → Prop), Inv X pins σ H s → t σ H Q → wpAny (model X.prog X.w) X.A (evalAll ((backToKw pos (keywordEach kws X.env)).map (·.2))) (AP X pins σ Q) X.xe s
section
variable {X : Cx} {CX : CXT} {k : Nat} {f C : Addr} {fd : FuncData} {ps ks : List Str} {sp : Sp} {E : XK} {x m : Str} {p pos apos kpos : Pos} {e o : Expr} {es : List Expr} {kws : List Keyword} {te ta : TE} {t tk : TA} {nm : Option Str}
theorem pk_nil : PK X [] tNil := fun _ _ _ _ H Q I h => wpAny_evalAll_nil ⟨[], H, I, .nil, h⟩
theorem pk_cons (ha : PE X e te) (hr : PK X kws t) : PK X (⟨nm, e, kpos⟩ :: kws) (tCons te t) := by
  intro pos pins s σ H Q I h
  show wpAny _ _ (evalAll ((do let v ← eval e X.env; standAt pos; pure v) :: (backToKw pos (keywordEach kws X.env)).map (·.2))) _ _ s
  refine wpAny_evalAll_cons (wpAny_bind (thn (ha pins s σ H _ I h) fun u s1 ⟨x, H1, I1, r1, q1⟩ => wpAny_bind (wpAny_standAt (wpAny_pure ?_))))
  exact thn (hr pos pins s1 σ H1 _ I1 q1) fun us s2 ⟨xs, H2, I2, r2, q2⟩ => ⟨x :: xs, H2, I2, .cons r1 r2, q2⟩

variable {g : List Value → List Value → List Value} {gV : List V → List V → List V}
end

/-! ### a def's body keeps its promise -/
/-- names: the parameters first -/
structure FnScope (N P : List Str) (sc : Scope) : Prop where
  kind : sc.kind = .function
  co : sc.isCoroutine = false
  gen : sc.isGenerator = false
  nd : N.Nodup
  pre : N.take P.length = P
  par : ∀ x ∈ P, sc.names.lookup x = some .local ∨ sc.names.lookup x = some .cell
  nofree : ∀ y ∈ sc.names, y.2 ≠ .free

theorem bindL_out {kindOf : Str → Option NameKind} {x : Str} : ∀ {binds : List (Str × Value)} {m : Str → Option Value}, (∀ v, (x, v) ∉ binds) → bindL kindOf binds m x = m x
  | [], _, _ => rfl
  | (n, v) :: r, m, h => by
    unfold bindL
    rw [bindL_out fun w hw => h w (List.mem_cons_of_mem _ hw)]
    split
    · have : x ≠ n := by rintro rfl; exact h v List.mem_cons_self
      simp [this]
    · rfl
theorem bindC_out {kindOf : Str → Option NameKind} {x : Str} : ∀ {binds : List (Str × Value)} {m : Str → Option Value}, (∀ v, (x, v) ∉ binds) → bindC kindOf binds m x = m x
  | [], _, _ => rfl
  | (n, v) :: r, m, h => by
    unfold bindC
    rw [bindC_out fun w hw => h w (List.mem_cons_of_mem _ hw)]
    split
    · rfl
    · have : x ≠ n := by rintro rfl; exact h v List.mem_cons_self
      simp [this]
theorem bindL_get {kindOf : Str → Option NameKind} {x : Str} {v : Value} : ∀ {P : List Str} {vs : List Value} {i : Nat} {m : Str → Option Value}, P.Nodup → P[i]? = some x → vs[i]? = some v → kindOf x = some .local →
    bindL kindOf (P.zip vs) m x = some v
  | [], _, _, _, _, h, _, _ => by simp at h
  | _ :: _, [], _, _, _, _, h, _ => by simp at h
  | p :: P, w :: vs, 0, m, nd, h1, h2, hk => by
    simp at h1 h2; subst h1; subst h2
    show bindL kindOf ((p, w) :: P.zip vs) m p = _
    unfold bindL
    rw [bindL_out fun v hv => (List.nodup_cons.mp nd).1 (List.of_mem_zip hv).1, if_pos hk]
    simp
  | p :: P, w :: vs, i + 1, m, nd, h1, h2, hk => by
    show bindL kindOf ((p, w) :: P.zip vs) m x = _
    unfold bindL
    exact bindL_get (i := i) (List.nodup_cons.mp nd).2 (by simpa using h1) (by simpa using h2) hk
theorem bindC_get {kindOf : Str → Option NameKind} {x : Str} {v : Value} : ∀ {P : List Str} {vs : List Value} {i : Nat} {m : Str → Option Value}, P.Nodup → P[i]? = some x → vs[i]? = some v → kindOf x ≠ some .local →
    bindC kindOf (P.zip vs) m x = some v
  | [], _, _, _, _, h, _, _ => by simp at h
  | _ :: _, [], _, _, _, _, h, _ => by simp at h
  | p :: P, w :: vs, 0, m, nd, h1, h2, hk => by
    simp at h1 h2; subst h1; subst h2
    show bindC kindOf ((p, w) :: P.zip vs) m p = _
    unfold bindC
    rw [bindC_out fun v hv => (List.nodup_cons.mp nd).1 (List.of_mem_zip hv).1, if_neg hk]
    simp
  | p :: P, w :: vs, i + 1, m, nd, h1, h2, hk => by
    show bindC kindOf ((p, w) :: P.zip vs) m x = _
    unfold bindC
    exact bindC_get (i := i) (List.nodup_cons.mp nd).2 (by simpa using h1) (by simpa using h2) hk

/-- the names' values at the entry -/
def start (N : List Str) (vs : List V) : St := vs.map some ++ List.replicate (N.length - vs.length) none

/-- the context of a def's body, at its entry; an exception leaves the frame, then lies as CX says -/
def cxOf (CX : CXT) (P : Program) (w : World) (K : PySem.W.Frag) (mg : Str → Option Value) (base : Heap) (N : List Str) (qual : Str) (scope : Scope) (f : Addr) (cd : Value) (A : Around) (outer : List Env) (s : Shared) (H : Hp) (E : XK) : Cx where
  prog := P
  w := w
  K := K
  mg := mg
  base := base
  A := A.deeper (envOfC qual scope s.heap.objs.size f cd)
  N := N
  s₀ := s
  H₀ := H
  env := envOfC qual scope s.heap.objs.size f cd
  outer := outer
  stack := envOfC qual scope s.heap.objs.size f cd :: outer
  ex := []
  calm := true
  fn := fun _ => true
  pn := []
  xe := fun e s' => wpAny (model P w) (A.deeper (envOfC qual scope s.heap.objs.size f cd)) (leaving (envOfC qual scope s.heap.objs.size f cd) e) (fun _ s'' => CX outer H s E e s'') (fun e' s'' => CX outer H s E e' s'') s'

theorem cell_has {sc : Scope} {n : Nat} {x : Str} (h : sc.names.lookup x = some .cell) : ∃ c, (cellsFrom n sc.names []).lookup x = some c := by
  have q := PySem.W.cellsFrom_some sc.names n [] (.inl h)
  exact Option.isSome_iff_exists.mp q

theorem inv_start {CX : CXT} {P : Program} {w : World} {K : PySem.W.Frag} {mg : Str → Option Value} {base : Heap} {N ps : List Str} {qual : Str} {scope : Scope} {f : Addr} {cd : Value} {A : Around} {outer : List Env} {s s1 : Shared} {H : Hp} {E : XK} {us : List Value} {vs : List V}
    (S : FnScope N ps scope) (hd : A.handled = none) (e0 : Env0 P w K mg base A outer s H) (hl : vs.length = ps.length) (r : Vals vs us)
    (x : InCallC s s.heap.objs.size (bindL (envOfC qual scope s.heap.objs.size f cd).kindOf (ps.zip us) fun _ => none) (cellsFrom (s.heap.objs.size + 1) scope.names []) (bindC (envOfC qual scope s.heap.objs.size f cd).kindOf (ps.zip us) fun _ => none) s1) :
    Inv (cxOf CX P w K mg base N qual scope f cd A outer s H E) [] (start N vs) H s1 := by
  have hpl : ps.length ≤ N.length := by have := congrArg List.length S.pre; rw [List.length_take] at this; omega
  obtain ⟨h1, tk, rfl, hk⟩ := x.done
  have noA : ∀ b : Addr, b ∉ (cxOf CX P w K mg base N qual scope f cd A outer s H E).ex := fun b z => absurd (show b ∈ ([] : List Addr) from z) (by simp)
  refine ⟨⟨e0.mod, S.kind, rfl, rfl, Nat.le_refl _, fun y z c h1 h2 => ?_, fun y hy => ?_, fun y c _ h => ?_, fun _ => hd, Around.frames_deeper e0.frames, .inr ⟨rfl, rfl⟩, fun b z => absurd z (noA b), e0.bs, e0.bsz, fun b _ _ => noA b, fun b z => absurd z (noA b), e0.funs, e0.frf⟩,
    rfl, e0.bare, Un.kept hk, ⟨_, x.toInCall.ns, fun i y v h1 h2 h3 => ?_⟩, fun y c h => ⟨_, x.cell y c h⟩, e0.hok.fresh (Nat.le_refl _), fun y c h => ?_, fun p hp => absurd (show p ∈ ([] : List (Addr × Obj)) from hp) (by simp), e0.hok.kept hk, ?_⟩
  · exact name_of_addr x.apart (PySem.mem_of_lookup h1) (PySem.mem_of_lookup h2)
  · have hy : scope.names.lookup y = some .cell ∨ scope.names.lookup y = some .free := hy
    rcases hy with hy | hy
    · exact cell_has hy
    · exact absurd rfl (S.nofree _ (PySem.mem_of_lookup hy))
  · exact Nat.le_of_lt (x.above y c (PySem.mem_of_lookup h))
  · have hi : i < vs.length := by
      unfold start at h2
      by_cases hi : i < vs.length
      · exact hi
      · rw [List.getElem?_append_right (by simpa using hi)] at h2
        rw [List.getElem?_replicate] at h2
        split at h2 <;> cases h2
    have ha : vs[i]? = some v := by
      unfold start at h2
      rw [List.getElem?_append_left (by simpa using hi), List.getElem?_map] at h2
      cases e : vs[i]? with
      | none => rw [e] at h2; cases h2
      | some a => rw [e] at h2; cases h2; rfl
    obtain ⟨u, hu, rv⟩ := r.get ha
    have hp : ps[i]? = some y := by
      rw [← S.pre, List.getElem?_take_of_lt (by omega)]; exact h1
    have ndP : ps.Nodup := by rw [← S.pre]; exact S.nd.sublist (List.take_sublist _ _)
    refine ⟨u, rv, ?_⟩
    rcases S.par y (List.mem_of_getElem? hp) with k | k
    · exact .inl ⟨k, bindL_get ndP hp hu k⟩
    · obtain ⟨c, e⟩ := cell_has (n := s.heap.objs.size + 1) k
      refine .inr ⟨.inl k, c, e, ?_⟩
      have q := x.cell y c e
      rw [bindC_get ndP hp hu (by show scope.names.lookup y ≠ _; rw [k]; decide)] at q
      exact q
  · exact e0.hok.fresh (Nat.le_of_lt (x.above y c (PySem.mem_of_lookup h)))
  · unfold start
    show _ = N.length
    rw [List.length_append, List.length_map, List.length_replicate]
    omega

/-- THE RULE: a def (or a method) of the text, by its body. The body's reading t is chosen for each entry; it is run at the parameters' values -/
theorem fn_of {CX : CXT} {P : Program} {w : World} {K : PySem.W.Frag} {mg : Str → Option Value} {base : Heap} {k : Nat} {f : Addr} {name qual : Str} {params : Arguments} {body : List Stmt} {scope : Scope} {dV kV doc pm cdv ct oc : Value} {an od : Option Addr}
    {osl : Array (Option Value)} {N ps : List Str} {sp : Sp} (lk : K.lookup f = some ⟨oc, od, .func (PySem.W.fnOf name qual params body scope dV kV doc pm an cdv ct), osl⟩) (hcd : PySem.W.codeIn K cdv qual = true) (S : FnScope N ps scope)
    (len : ∀ vs H Q E, sp vs H Q E → vs.length = ps.length)
    (hbody : ∀ (A : Around) (outer : List Env) (s : Shared) (H : Hp) (vs : List V) (Q : VK) (E : XK), Room k (A.deeper (envOfC qual scope s.heap.objs.size f cdv)) → sp vs H Q E →
      ∃ t, PSs (cxOf CX P w K mg base N qual scope f cdv A outer s H E) body t ∧ t { nx := fun _ H' => Q .non H', rt := Q } (start N vs) H) :
    FnOk P w K mg base CX (k + 1) f (PySem.W.fnOf name qual params body scope dV kV doc pm an cdv ct) ps sp := by
  refine ⟨len, fun A outer s H args us vs Q E hr e0 hb r hsp => ?_⟩
  have hl := len _ _ _ _ hsp
  have KX : K.In s.heap := e0.mod.kin.keeps fun b o e => (e0.bs b o e).1
  have lim : s.heap.NoLimit := e0.mod.nolimit.keeps fun b o e => (e0.bs b o e).1
  have hkind : ∀ y ∈ ps.zip us, scope.names.lookup y.1 = some .local ∨ (scope.names.lookup y.1 = some .cell ∧ ((cellsFrom (s.heap.objs.size + 1) scope.names []).lookup y.1).isSome = true) := fun ⟨n, v⟩ hy => by
    rcases S.par n (List.of_mem_zip hy).1 with q | q
    · exact .inl q
    · exact .inr ⟨q, PySem.W.cellsFrom_some _ _ _ (.inl q)⟩
  refine codeAny_call_function hr.depth (KX _ _ lk) rfl S.co S.gen rfl (PySem.W.codeRec_of KX hcd) (hb _ _ _ _ ?_)
  refine wpAny_newFunctionEnv_cells S.kind hkind fun env he s1 x => ?_
  subst he
  refine ⟨lim.keeps x.toInCall.keep, codeAny_func ?_⟩
  obtain ⟨t, ht, hq⟩ := hbody A outer s H vs Q E (hr.deeper _) hsp
  have I : Inv (cxOf CX P w K mg base N qual scope f cdv A outer s H E) [] (start N vs) H s1 := inv_start S hr.hd e0 hl r x
  refine wpAny_mono (ht [] s1 (start N vs) H _ I hq) (fun fl s' hs => ?_) fun e s' hs => hs
  have fin : ∀ {σ' : St} {H' : Hp} {v : V} {u : Value}, Inv (cxOf CX P w K mg base N qual scope f cdv A outer s H E) [] σ' H' s' → RelV v u → Q v H' → CE outer P w H s Q u s' :=
    fun {σ' H' v u} J rv q => ⟨v, H', J.os, J.bare, J.base, J.hok, rv, q⟩
  cases fl with
  | ret u =>
    obtain ⟨v, σ', H', J, rv, q⟩ := hs
    exact fin J rv q
  | next =>
    obtain ⟨σ', H', J, q⟩ := hs
    exact fin (v := V.non) (u := Value.none) J rfl q
  | brk =>
    obtain ⟨_, _, _, q⟩ := hs
    exact False.elim q
  | cont =>
    obtain ⟨_, _, _, q⟩ := hs
    exact False.elim q
end L2

namespace L2
open PySem PySem.Spec PyProof.Rows
section
variable {X : Cx} {x : Str} {p pos : Pos} {e : Expr} {es : List Expr} {t : TA} {id T : String} {r : List V → Hp → VK → Prop}

def tCB (r : List V → Hp → VK → Prop) (t : TA) : TE := fun σ H Q => t σ H fun vs H1 => r vs H1 Q
/-- f(e, ..), f a built-in function -/
theorem pe_callB (hc : CallR X (.builtin id) r) (hg : Gl X x) (hm : X.mg x = none) (hv : bootBuiltins x = some (.builtin id)) (ha : PA X (e :: es) t) (hn : x ≠ "__name__" := by decide) (hdb : (x == ("__debug__" : Str)) = false := by decide)
    (he : starEach (e :: es) X.env = (false, eval e X.env) :: starEach es X.env := by rfl) (hpl : (backTo pos (starEach es X.env)).any (·.1) = false := by rfl) : PE X (.Call (.Name x p) (e :: es) [] pos) (tCB r t) := by
  intro pins s σ H Q I h
  refine wpAny_Call_Name_kw (ld_blt I hg hm hv ?_ hn hdb)
  exact PyProof.Rows.callWith_builtin1 (thn (ha pos pins s σ H _ I h) fun us s1 ⟨vs, H1, I1, r1, q1⟩ => hc pins s1 σ H1 vs us Q I1 r1 q1) he hpl
/-- T(e, ..), T a built-in type -/
theorem pe_callTy (hc : CallR X (.type T) r) (hg : Gl X x) (hm : X.mg x = none) (hv : bootBuiltins x = some (.type T)) (ha : PA X (e :: es) t) (hn : x ≠ "__name__" := by decide) (hdb : (x == ("__debug__" : Str)) = false := by decide)
    (he : starEach (e :: es) X.env = (false, eval e X.env) :: starEach es X.env := by rfl) (hpl : (backTo pos (starEach es X.env)).any (·.1) = false := by rfl) : PE X (.Call (.Name x p) (e :: es) [] pos) (tCB r t) := by
  intro pins s σ H Q I h
  refine wpAny_Call_Name_kw (ld_blt I hg hm hv ?_ hn hdb)
  exact PyProof.Rows.callWith_type1 (thn (ha pos pins s σ H _ I h) fun us s1 ⟨vs, H1, I1, r1, q1⟩ => hc pins s1 σ H1 vs us Q I1 r1 q1) he hpl
end
end L2

namespace HT
open PySem PyProof.Rows

section
open PySem.SeqAt
open PySem.AutoSeq1 (wpAny_loadPart')
open PySem.MeetsSeq PySem.MeetsSeq2 PySem.MeetsSeq3

end

section
variable {prog : Program} {w : World} {A : Around} {E : Value → Shared → Prop} {s : Shared}

/-! ### t[a:b], not the whole -/
/-- a slice's bound as a place among n (d where it is left out) -/
def sIx (n d : Nat) : Option Int → Nat
  | none => d
  | some v => if v < 0 then (v + (n : Int)).toNat else min v.toNat n
theorem sIx_none (n d : Nat) : sIx n d none = d := rfl
theorem sIx_nat (n d k : Nat) : sIx n d (some (k : Int)) = min k n := by
  show (if (k : Int) < 0 then ((k : Int) + (n : Int)).toNat else min (k : Int).toNat n) = min k n
  rw [if_neg (by omega), Int.toNat_natCast]
theorem sIx_le (n d : Nat) (hd : d ≤ n) (o : Option Int) : sIx n d o ≤ n := by
  cases o with
  | none => exact hd
  | some v =>
    show (if v < 0 then (v + (n : Int)).toNat else min v.toNat n) ≤ n
    by_cases hv : v < 0
    · rw [if_pos hv]; omega
    · rw [if_neg hv]; exact Nat.min_le_right _ _
theorem clip_eq (v : Int) (n d : Nat) : (if v < 0 then max (v + (n : Int)) 0 else min v (n : Int)) = ((sIx n d (some v) : Nat) : Int) := by
  show (if v < 0 then max (v + (n : Int)) 0 else min v (n : Int)) = (((if v < 0 then (v + (n : Int)).toNat else min v.toNat n) : Nat) : Int)
  by_cases hv : v < 0
  · simp only [if_pos hv]; omega
  · simp only [if_neg hv]; omega
theorem adjust_gen (lo hi : Option Int) (n : Nat) : Builtin.Slice.sliceAdjust lo hi 1 (n : Int) = (((sIx n 0 lo : Nat) : Int), ((sIx n n hi : Nat) : Int)) := by
  have h1 : ¬ ((1 : Int) < 0) := by omega
  unfold Builtin.Slice.sliceAdjust
  simp only [h1, if_false]
  refine Prod.ext ?_ ?_
  · cases lo with
    | none => rfl
    | some v => exact clip_eq v n 0
  · cases hi with
    | none => rfl
    | some v => exact clip_eq v n n
theorem places_gen (i j : Nat) : Builtin.Slice.slicePlaces (i : Int) (j : Int) 1 = j - i := by
  unfold Builtin.Slice.slicePlaces
  have h1 : (1 : Int) > 0 := by omega
  simp only [h1, if_true, Int.ediv_one]
  split <;> omega
theorem slicePart_ {v : Value} {o : Option Int} {Q : Option Int → Shared → Prop} (p : IsPart v o) (h : Q o s) : wpAny (model prog w) A (Builtin.Slice.slicePartIndex v) Q E s := by
  cases p with
  | none => exact slicePart_none h
  | int i t => exact slicePart_int h
theorem sliceApplied_gen {sl : Addr} {vl vu : Value} {lo hi : Option Int} {n : Nat} {Q : Int × Int × Nat → Shared → Prop} (hs : s.heap.IsSliceOf sl vl vu .none) (pl : IsPart vl lo) (pu : IsPart vu hi)
    (h : Q (((sIx n 0 lo : Nat) : Int), 1, sIx n n hi - sIx n 0 lo) s) : wpAny (model prog w) A (Builtin.Slice.sliceApplied (.ref sl) (pure (n : Int))) Q E s := by
  obtain ⟨os, hos, hcs, hds⟩ := id hs
  unfold Builtin.Slice.sliceApplied Builtin.Slice.sliceFields
  refine wpAny_bind (wpAny_bind (wpAny_field hos hds (x := vl) rfl (wpAny_bind (wpAny_field hos hds (x := vu) rfl (wpAny_bind (wpAny_field hos hds (x := .none) rfl (wpAny_pure ?_)))))))
  refine wpAny_bind (slicePart_none ?_)
  show wpAny _ _ (if ((1 : Int) == 0) = true then _ else _) _ _ s
  rw [if_neg (by decide)]
  refine wpAny_bind (slicePart_ pl (wpAny_bind (slicePart_ pu (wpAny_bind (wpAny_pure ?_)))))
  show wpAny _ _ (match Builtin.Slice.sliceAdjust lo hi 1 (n : Int) with | (lo, hi) => pure (lo, (1 : Int), Builtin.Slice.slicePlaces lo hi 1)) _ _ s
  rw [adjust_gen lo hi n]
  show wpAny _ _ (pure (((sIx n 0 lo : Nat) : Int), (1 : Int), Builtin.Slice.slicePlaces ((sIx n 0 lo : Nat) : Int) ((sIx n n hi : Nat) : Int) 1)) _ _ s
  rw [places_gen]
  exact wpAny_pure h
theorem pick_gen (xs : Array Value) (i k : Nat) : ((List.range k).filterMap fun (m : Nat) => xs[((i : Int) + (m : Int) * 1).toNat]?).toArray = ((xs.toList.drop i).take k).toArray := by
  have e : (fun (m : Nat) => xs[((i : Int) + (m : Int) * 1).toNat]?) = fun m => xs[i + m]? := by
    funext m
    have : ((i : Int) + (m : Int) * 1).toNat = i + m := by omega
    rw [this]
  rw [e]
  have := pick_run xs i k
  rw [List.filterMap_map] at this
  have e2 : ((fun x => xs[x]?) ∘ fun x => i + x) = fun m => xs[i + m]? := rfl
  rw [e2] at this
  rw [this]

theorem getItem_tuple_cut {t sl : Addr} {items : Array Value} {vl vu : Value} {lo hi : Option Int} {Q : Value → Shared → Prop} (ht : IsTup s.heap t items) (hs : s.heap.IsSliceOf sl vl vu .none) (pl : IsPart vl lo) (pu : IsPart vu hi)
    (hw : ¬ (sIx items.size 0 lo = 0 ∧ sIx items.size items.size hi = items.size))
    (h : Q (.ref s.heap.objs.size) { s with heap := s.heap.push { cls := .type "tuple", data := .seq ((items.toList.drop (sIx items.size 0 lo)).take (sIx items.size items.size hi - sIx items.size 0 lo)).toArray } })
    (hsz : items.size ≤ sizeLine) : wpAny (model prog w) A (getItem (.ref t) (.ref sl)) Q E s := by
  have htake : sizeOk (.seq ((items.toList.drop (sIx items.size 0 lo)).take (sIx items.size items.size hi - sIx items.size 0 lo)).toArray) := by
    show ((items.toList.drop (sIx items.size 0 lo)).take (sIx items.size items.size hi - sIx items.size 0 lo)).toArray.size ≤ sizeLine
    rw [List.size_toArray, List.length_take, List.length_drop, Array.length_toList]
    omega
  have hj : sIx items.size items.size hi ≤ items.size := sIx_le _ _ (Nat.le_refl _) hi
  obtain ⟨os, hos, hcs, hds⟩ := id hs
  have hTs : s.TypeIs (.ref sl) "slice" := ⟨os, hos, hcs⟩
  unfold getItem
  try with_reducible refine wpAny_holding ?_
  first | refine wpAny_bind (wpAny_pure ?_) | skip
  refine wpAny_bind (wpAny_sequenceKey ht.typeIs (by decide) ?_)
  refine wpAny_bind (wpAny_callSpecial?_slot (name := Str.ofString "__getitem__") ht.typeIs PyProof.Rows.slot_tuple_getitem
    (wpAny_call_entry PyProof.Rows.slot_tuple_getitem ht.typeIs entry_tuple_getitem ?_ (args_tuple_getitem _ _)))
  show wpAny _ _ (Builtin.Tuple.tupleItemsOf (.ref t) >>= _) _ _ s
  refine wpAny_bind (tupleItemsOf_ ht ?_)
  refine wpAny_bind (wpAny_typeOf hTs ?_)
  rw [if_pos (by decide)]
  refine wpAny_bind (sliceApplied_gen hs pl pu ?_)
  have hno : ¬ ((((sIx items.size 0 lo : Nat) : Int) == 0 && (1 : Int) == 1 && (sIx items.size items.size hi - sIx items.size 0 lo) == items.size) = true) := by
    intro q
    rw [Bool.and_eq_true, Bool.and_eq_true] at q
    have q1 : ((sIx items.size 0 lo : Nat) : Int) = 0 := eq_of_beq q.1.1
    have q2 : sIx items.size items.size hi - sIx items.size 0 lo = items.size := eq_of_beq q.2
    exact hw ⟨by omega, by omega⟩
  show wpAny _ _ (if (((sIx items.size 0 lo : Nat) : Int) == 0 && (1 : Int) == 1 && (sIx items.size items.size hi - sIx items.size 0 lo) == items.size) = true then _ else _) _ _ s
  rw [if_neg hno, pick_gen]
  first
    | exact wpAny_bind (m := Builtin.Tuple.tupleExact _) (wpAny_newObj_type (wpAny_pure ⟨_, rfl, wpAny_pure h⟩) htake)
    | exact wpAny_bind (m := Builtin.Tuple.tupleExact _) (wpAny_newObj_type (wpAny_bind (wpAny_pure (wpAny_pure ⟨_, rfl, wpAny_pure h⟩))) htake)
    | exact wpAny_bind (wpAny_bind (m := Builtin.Tuple.tupleExact _) (wpAny_newObj_type (wpAny_pure (wpAny_pure ⟨_, rfl, wpAny_pure h⟩)) htake))
    | exact wpAny_bind (wpAny_bind (m := Builtin.Tuple.tupleExact _) (wpAny_newObj_type (wpAny_pure ⟨_, rfl, wpAny_pure h⟩) htake))
end
end HT

namespace L2
open PySem PySem.Spec PyProof.Rows

/-! ### the parts of a slice -/
abbrev TO := St → Hp → (Option Int → Hp → Prop) → Prop
/-- a slice's part (left out, or an int) -/
def PO (X : Cx) (e : Option Expr) (t : TO) : Prop :=
  ∀ (pins : List (Addr × Obj)) (s : Shared) (σ : St) (H : Hp) (Q : Option Int → Hp → Prop), Inv X pins σ H s → t σ H Q →
    wpAny (model X.prog X.w) X.A (evalPart e X.env) (fun u s' => ∃ o H', Inv X pins σ H' s' ∧ IsPart u o ∧ Q o H') X.xe s
def tNoPart : TO := fun _ H Q => Q none H
def tPart (t : TE) : TO := fun σ H Q => t σ H fun x H1 => ∃ i, x = .int i ∧ Q (some i) H1

theorem intsAre_of {ns : List Int} : ∀ {us : List Value}, Vals (ns.map V.int) us → IntsAre us ns := by
  induction ns with
  | nil => intro us r; rw [List.map_nil] at r; cases r; exact .nil
  | cons n ns ih =>
    intro us r
    rw [List.map_cons] at r
    cases r with
    | cons r1 r2 =>
      obtain ⟨t, e⟩ := r1
      subst e
      exact .cons n t (ih r2)

section
variable {X : Cx} {e : Expr} {te : TE} {lo hi : Option Expr} {tl th : TO} {pos p2 : Pos}

theorem po_none : PO X none tNoPart := by
  intro pins s σ H Q I h
  rw [evalPart_none]
  exact wpAny_pure ⟨none, H, I, .none, h⟩
theorem po_some (h : PE X e te) : PO X (some e) (tPart te) := by
  intro pins s σ H Q I hw
  rw [evalPart_some]
  refine thn (h pins s σ H _ I hw) fun u s1 ⟨x, H1, I1, r1, q1⟩ => ?_
  obtain ⟨i, rfl, q⟩ := q1
  obtain ⟨t, rfl⟩ := r1
  exact ⟨some i, H1, I1, .int i t, q⟩

/-- what a slice of a value is, by values: the slice object stands at sl -/
def SlR (X : Cx) (r : V → Option Int → Option Int → Hp → VK → Prop) : Prop :=
  ∀ (pins : List (Addr × Obj)) (s : Shared) (σ : St) (H : Hp) (x : V) (v vl vu : Value) (lo hi : Option Int) (sl : Addr) (Q : VK), Inv X pins σ H s → RelV x v → s.heap.IsSliceOf sl vl vu .none → IsPart vl lo → IsPart vu hi → r x lo hi H Q →
    ∃ T id, typeLookup (.type T) "__getitem__" = pure (some (.builtin id)) ∧ s.TypeIs v T ∧ wpAny (model X.prog X.w) X.A (getItem v (.ref sl)) (EP X pins σ Q) X.xe s
def tSl (r : V → Option Int → Option Int → Hp → VK → Prop) (te : TE) (tl th : TO) : TE := fun σ H Q => te σ H fun x H1 => tl σ H1 fun l H2 => th σ H2 fun u H3 => r x l u H3 Q
/-- a[lo:hi], any a -/
theorem pe_slice {r : V → Option Int → Option Int → Hp → VK → Prop} (hr : SlR X r) (he : PE X e te) (hl : PO X lo tl) (hu : PO X hi th) : PE X (.Subscript e (.Slice lo hi none p2) pos) (tSl r te tl th) := by
  intro pins s σ H Q I h
  refine Subscript_ (thn (he pins s σ H _ I h) fun v s1 ⟨x, H1, I1, r1, q1⟩ => ?_)
  refine wpAny_Slice (thn (hl pins s1 σ H1 _ I1 q1) fun vl s2 ⟨l, H2, I2, pl, q2⟩ => thn (hu pins s2 σ H2 _ I2 q2) fun vu s3 ⟨u, H3, I3, pu, q3⟩ => ?_)
  rw [evalPart_none]
  refine wpAny_pure ?_
  have I4 : Inv X pins σ H3 { s3 with heap := s3.heap.push { cls := .type "slice", data := .fields #[vl, vu, .none] } } := I3.kept (t' := s3.toks) fun b ob q => Heap.get?_push_of_some _ q
  obtain ⟨T, id, hT, ht, hg⟩ := hr pins { s3 with heap := s3.heap.push { cls := .type "slice", data := .fields #[vl, vu, .none] } } σ H3 x v vl vu l u s3.heap.objs.size Q I4 r1 (Heap.IsSliceOf.new ..) pl pu q3
  show wpAny (model X.prog X.w) X.A (subscriptTail e (.Slice lo hi none p2) v (.ref s3.heap.objs.size)) (EP X pins σ Q) X.xe { s3 with heap := s3.heap.push { cls := .type "slice", data := .fields #[vl, vu, .none] } }
  exact tail_any (ops := [.ref s3.heap.objs.size, v]) ht hT hg (by with_unfolding_all rfl)

/-- the items of xs[lo:hi] -/
def cutV (xs : List V) (lo hi : Option Int) : List V := (xs.drop (HT.sIx xs.length 0 lo)).take (HT.sIx xs.length xs.length hi - HT.sIx xs.length 0 lo)
theorem cutV_length (xs : List V) (lo hi : Option Int) : (cutV xs lo hi).length ≤ xs.length := by
  unfold cutV
  rw [List.length_take, List.length_drop]
  omega
/-- t[lo:hi], not the whole of it (the whole would be t itself) -/
def rSlT (K : PySem.W.Frag) : V → Option Int → Option Int → Hp → VK → Prop := fun x lo hi H Q => ∃ a xs, x = .ref a ∧ SqT K H a xs ∧
  ¬ (HT.sIx xs.length 0 lo = 0 ∧ HT.sIx xs.length xs.length hi = xs.length) ∧ ∀ p, H p = none → Q (.ref p) (upd H p (.tup (cutV xs lo hi)))
theorem sl_tup : SlR X (rSlT X.K) := by
  intro pins s σ H x v vl vu lo hi sl Q I rx hs pl pu h
  obtain ⟨a, xs, rfl, hx, hw, q⟩ := h
  cases rx
  obtain ⟨its, r, ht, hz⟩ := I.tuple hx
  have hlen : its.toArray.size = xs.length := by rw [List.size_toArray]; exact r.length.symm
  refine ⟨"tuple", _, PyProof.Rows.slot_tuple_getitem.lookup, ht.typeIs, ?_⟩
  refine HT.getItem_tuple_cut ht hs pl pu (by rw [hlen]; exact hw) ?_ (by rw [hlen]; exact hz)
  rw [hlen]
  refine ⟨.ref s.heap.objs.size, _, I.laid (t' := s.toks) (o := .tup (cutV xs lo hi)) (fun b ob q => Heap.get?_push_of_some _ q) (Nat.le_refl _) ?_, rfl, q _ (I.hok.fresh (Nat.le_refl _))⟩
  exact ⟨Nat.le_trans (cutV_length xs lo hi) hz, _, (r.drop (HT.sIx xs.length 0 lo)).take (HT.sIx xs.length xs.length hi - HT.sIx xs.length 0 lo), IsTup.new _ _⟩

/-! ### t < u, t + u -/
end
end L2

namespace L2
open PySem PySem.Spec PyProof.Rows

/-! ### places -/
/-- the place that an index of any sign means -/
def ixN (n : Nat) (i : Int) : Option Nat := if 0 ≤ i then (if i < n then some i.toNat else none) else if -(n : Int) ≤ i then some (i + n).toNat else none
def atI {α : Type} (xs : List α) (i : Int) : Option α := (ixN xs.length i).bind fun j => xs[j]?
theorem ixN_seq {n : Nat} {i : Int} {j : Nat} (h : ixN n i = some j) : seqIndex? i n = some j ∧ j < n ∧ -(n : Int) ≤ i ∧ i < n := by
  unfold ixN at h
  by_cases h0 : 0 ≤ i
  · rw [if_pos h0] at h
    by_cases h1 : i < n
    · rw [if_pos h1] at h
      have e : i.toNat = j := Option.some.inj h
      exact ⟨by rw [seqIndex_of h0 h1, e], by omega, by omega, h1⟩
    · rw [if_neg h1] at h; cases h
  · rw [if_neg h0] at h
    by_cases h1 : -(n : Int) ≤ i
    · rw [if_pos h1] at h
      have e : (i + n).toNat = j := Option.some.inj h
      exact ⟨by rw [seqIndex_neg (by omega) h1, e], by omega, h1, by omega⟩
    · rw [if_neg h1] at h; cases h
theorem atI_get {α : Type} {xs : List α} {i : Int} {v : α} (h : atI xs i = some v) : ∃ j, seqIndex? i xs.length = some j ∧ xs[j]? = some v ∧ j < xs.length ∧ -(xs.length : Int) ≤ i ∧ i < xs.length := by
  unfold atI at h
  cases e : ixN xs.length i with
  | none => rw [e] at h; cases h
  | some j =>
    rw [e] at h
    obtain ⟨h1, h2, h3, h4⟩ := ixN_seq e
    exact ⟨j, h1, h, h2, h3, h4⟩
theorem atI_nat {α : Type} {xs : List α} {j : Nat} {v : α} (h : xs[j]? = some v) : atI xs (j : Int) = some v := by
  have hj : j < xs.length := (List.getElem?_eq_some_iff.mp h).1
  have e : ixN xs.length (j : Int) = some j := by
    unfold ixN
    rw [if_pos (by omega), if_pos (by omega)]; simp
  unfold atI; rw [e]; exact h
/-! ### what may be subscripted -/
/-- what stands as an index of a plain subscript -/
def PlainIx (b : Expr) : Prop := ∀ o i, subscripted b false o i = operate [o, i] (getItem o i)
/-- a subscript by values -/
def IxR (X : Cx) (r : R2) : Prop :=
  ∀ (value slice : Expr) (pins : List (Addr × Obj)) (s : Shared) (σ : St) (H : Hp) (x y : V) (v u : Value) (Q : VK), Inv X pins σ H s → RelV x v → RelV y u → r x y H Q →
    subscripted slice false v u = operate [v, u] (getItem v u) → wpAny (model X.prog X.w) X.A (subscriptTail value slice v u) (EP X pins σ Q) X.xe s
/-- a call of a builtin's method by values: the receiver, the arguments -/
def MtR (X : Cx) (id : String) (r : V → List V → Hp → VK → Prop) : Prop :=
  ∀ (pins : List (Addr × Obj)) (s : Shared) (σ : St) (H : Hp) (x : V) (xs : List V) (v : Value) (us : List Value) (Q : VK), Inv X pins σ H s → RelV x v → Vals xs us → r x xs H Q →
    wpAny (model X.prog X.w) X.A (call (.builtin id) (v :: us)) (EP X pins σ Q) X.xe s
section
variable {X : Cx} {a b : Expr} {ta tb : TE} {pos : Pos}
/-- a[b] -/
theorem pe_ix {r : R2} (hr : IxR X r) (ha : PE X a ta) (hb : PE X b tb) (hs : PlainIx b) : PE X (.Subscript a b pos) (tOp r ta tb) := by
  intro pins s σ H Q I h
  exact Subscript_ (binT ha hb I h fun v u s2 x y H2 I2 rx ry q => hr a b pins s2 σ H2 x y v u Q I2 rx ry q (hs _ _))

def rIxL (K : PySem.W.Frag) : R2 := fun x y H Q => ∃ p xs i v, x = .ref p ∧ y = .int i ∧ SqL K H p xs ∧ atI xs i = some v ∧ Q v H
def rIxT (K : PySem.W.Frag) : R2 := fun x y H Q => ∃ p xs i v, x = .ref p ∧ y = .int i ∧ SqT K H p xs ∧ atI xs i = some v ∧ Q v H
theorem ix_list : IxR X (rIxL X.K) := by
  intro value slice pins s σ H x y v u Q I rx ry h hs
  obtain ⟨p, xs, i, z, rfl, rfl, hq, he, q⟩ := h
  cases rx
  obtain ⟨t, rfl⟩ := ry
  obtain ⟨its, r, pl, hz⟩ := I.list hq
  obtain ⟨j, h1, h2, h3, h4, h5⟩ := atI_get he
  obtain ⟨w, ew, rw'⟩ := r.get h2
  have hl := r.length
  have hn := line63
  have fin : EP X pins σ Q w s := ⟨z, H, I, rw', q⟩
  by_cases h0 : 0 ≤ i
  · have hj : i.toNat = j := by
      rw [seqIndex_of h0 h5] at h1
      exact Option.some.inj h1
    exact item_listR pl.isList h0 (by omega) (by rw [hj]; simpa using ew) fin hs
  · have hj : (i + (its.toArray.size : Int)).toNat = j := by
      rw [seqIndex_neg (by omega) h4] at h1
      rw [List.size_toArray, ← hl]
      exact Option.some.inj h1
    exact subscriptTail_builtinR (x := w) pl.isList.typeIs slot_list_getitem.lookup
      (wpAny_getItem_list_neg (Q := fun r s' => r = w ∧ EP X pins σ Q r s') pl.isList (by omega) (by rw [List.size_toArray] <;> omega) (by omega) (by rw [hj]; simpa using ew) ⟨rfl, fin⟩) hs
theorem ix_tup : IxR X (rIxT X.K) := by
  intro value slice pins s σ H x y v u Q I rx ry h hs
  obtain ⟨p, xs, i, z, rfl, rfl, hq, he, q⟩ := h
  cases rx
  obtain ⟨t, rfl⟩ := ry
  obtain ⟨its, r, pl, hz⟩ := I.tuple hq
  obtain ⟨j, h1, h2, h3, h4, h5⟩ := atI_get he
  obtain ⟨w, ew, rw'⟩ := r.get h2
  have hl := r.length
  have hn := line63
  have fin : EP X pins σ Q w s := ⟨z, H, I, rw', q⟩
  exact subscriptTail_builtinR (x := w) pl.typeIs slot_tuple_getitem.lookup
    (getItem_tuple (j := j) (Q := fun r s' => r = w ∧ EP X pins σ Q r s') pl (by omega) (by omega) (by rw [List.size_toArray, ← hl]; exact h1) (by simpa using ew) ⟨rfl, fin⟩) hs
/-! ### xs[i] = v, any sign -/
/-- the list's object behind a store -/
theorem mapSeq_set (its : List Value) (n j : Nat) (u : Value) : Obj.mapSeq (·.setIfInBounds j u) { cls := .type "list", data := .seq its.toArray n } = { cls := .type "list", data := .seq (its.set j u).toArray n } := by
  simp [Obj.mapSeq]
theorem Inv.lst {pins : List (Addr × Obj)} {σ : St} {H : Hp} {s : Shared} {p : Addr} {xs : List V} (I : Inv X pins σ H s) (h : H p = some (.lst xs)) :
    ∃ (its : List Value) (n : Nat), Vals xs its ∧ s.heap.get? p = some { cls := .type "list", data := .seq its.toArray n } ∧ xs.length ≤ sizeLine := by
  obtain ⟨z, its, n, r, e⟩ := I.hok p _ h
  exact ⟨its, n, r, e, z⟩
/-- the list at p is written by an update of its object -/
theorem Inv.lstUpd {pins : List (Addr × Obj)} {σ : St} {H : Hp} {s : Shared} {p : Addr} {xs ys : List V} {its its' : List Value} {n n' : Nat} {f : Obj → Obj} (I : Inv X pins σ H s) (h : H p = some (.lst xs))
    (ho : s.heap.get? p = some { cls := .type "list", data := .seq its.toArray n }) (hf : f { cls := .type "list", data := .seq its.toArray n } = { cls := .type "list", data := .seq its'.toArray n' }) (r : Vals ys its') (hz : ys.length ≤ sizeLine) (t : Nat) :
    Inv X pins σ (upd H p (.lst ys)) { s with heap := s.heap.update p f, toks := t } := by
  have e : (s.heap.update p f).get? p = some { cls := .type "list", data := .seq its'.toArray n' } := by
    rw [Heap.get?_update_self f ho (by rw [hf] <;> rfl), hf]
  refine I.write (x := p) (e := p) (by rw [h]; trivial) (.inl rfl) (fun b u hb q => (Heap.get?_update_other _ _ (Ne.symm hb)).trans q) ⟨_, e⟩ ?_
  exact ⟨hz, its', n', r, e⟩
def rSetL : V → V → V → Hp → (Hp → Prop) → Prop := fun o i v H Q => ∃ p xs k j, o = .ref p ∧ i = .int k ∧ H p = some (.lst xs) ∧ ixN xs.length k = some j ∧ Q (upd H p (.lst (xs.set j v)))
theorem set_list : PSet X rSetL := by
  intro pins s σ H o i v ov iv u Q I ro ri rv h
  obtain ⟨p, xs, k, j, rfl, rfl, hp, hj, q⟩ := h
  cases ro
  obtain ⟨t, rfl⟩ := ri
  obtain ⟨its, n, r, ho, hz⟩ := I.lst hp
  obtain ⟨h1, h2, h3, h4⟩ := ixN_seq hj
  have hl := r.length
  have hn := line63
  have I' : Inv X pins σ (upd H p (.lst (xs.set j v))) { s with heap := s.heap.update p (Obj.mapSeq (·.setIfInBounds j u)) } :=
    I.lstUpd hp ho (mapSeq_set its n j u) (r.set rv j) (by rw [List.length_set]; exact hz) s.toks
  by_cases h0 : 0 ≤ k
  · have hk : k.toNat = j := by
      rw [seqIndex_of h0 h4] at h1
      exact Option.some.inj h1
    exact PySem.W.ki_setAt ho h0 (by omega) (by rw [List.size_toArray, ← hl]; exact h4) (by rw [hk]; exact ⟨_, I', q⟩)
  · have hk : (k + (its.toArray.size : Int)).toNat = j := by
      rw [seqIndex_neg (by omega) h3] at h1
      rw [List.size_toArray, ← hl]
      exact Option.some.inj h1
    exact PySem.W.ki_setBack ho (by omega) (by rw [List.size_toArray, ← hl]; exact h3) (by omega) (by rw [hk]; exact ⟨_, I', q⟩)

/-! ### slices -/
/-! ### in, not in: flat items -/
/-! ### len, list(x), tuple(x) of any list or tuple that is read -/
theorem call_len_seq : CallR X (.builtin "len") (fun xs H Q => ∃ p ys, xs = [.ref p] ∧ (SqL X.K H p ys ∨ SqT X.K H p ys) ∧ Q (.int ys.length) H) := by
  intro pins s σ H xs us Q I r h
  obtain ⟨p, ys, rfl, hq, q⟩ := h
  obtain ⟨u, rfl, rx⟩ := vals1 r
  cases rx
  have hn := line63
  rcases hq with hq | hq
  · obtain ⟨its, r', pl, hz⟩ := I.list hq
    have hlen := r'.length
    exact Calls.call_len_list pl.isList (by simp only [List.size_toArray] <;> omega) ⟨.int ys.length, H, I.tok _, ⟨s.toks + 1, by rw [List.size_toArray, hlen]⟩, q⟩
  · obtain ⟨its, r', pl, hz⟩ := I.tuple hq
    have hlen := r'.length
    exact len_tuple pl (by simp only [List.size_toArray] <;> omega) ⟨.int ys.length, H, I.tok _, ⟨s.toks + 1, by rw [List.size_toArray, hlen]⟩, q⟩
theorem call_list_of : CallR X (.type "list") (fun xs H Q => ∃ p ys, xs = [.ref p] ∧ (SqL X.K H p ys ∨ SqT X.K H p ys) ∧ ∀ l, H l = none → Q (.ref l) (upd H l (.lst ys))) := by
  intro pins s σ H xs us Q I r h
  obtain ⟨p, ys, rfl, hq, q⟩ := h
  obtain ⟨u, rfl, rx⟩ := vals1 r
  cases rx
  have fin : ∀ (its : List Value), Vals ys its → ys.length ≤ sizeLine → ∀ (h' : Heap) (c' : Nat), (∀ b o', s.heap.get? b = some o' → h'.get? b = some o') →
      h'.get? s.heap.objs.size = some { cls := .type "list", dict := none, data := .seq its.toArray c', slots := #[] } → EP X pins σ Q (.ref s.heap.objs.size) { s with heap := h' } := fun its r' hz h' c' kp e =>
    ⟨.ref s.heap.objs.size, _, I.laid (t' := s.toks) kp (Nat.le_refl _) (show ObjOk X.prog X.w _ h' _ (.lst ys) from ⟨hz, its, c', r', e⟩), rfl, q _ (I.hok.fresh (Nat.le_refl _))⟩
  rcases hq with hq | hq
  · obtain ⟨its, r', pl, hz⟩ := I.list hq
    have hlen := r'.length
    obtain ⟨o, ho, hc, n, hd⟩ := pl.isList
    exact call_list_seq p (.inl rfl) ho hc hd (fun h' c' kp e => fin its r' hz h' c' kp e) (by simp only [List.size_toArray] <;> omega)
  · obtain ⟨its, r', pl, hz⟩ := I.tuple hq
    have hlen := r'.length
    obtain ⟨o, ho, hc, n, hd⟩ := pl
    exact call_list_seq p (.inr rfl) ho hc hd (fun h' c' kp e => fin its r' hz h' c' kp e) (by simp only [List.size_toArray] <;> omega)
/-! ### the call of a builtin's method: o.m(..) -/
/-- the value is of that builtin type -/
def tyV (K : PySem.W.Frag) (T : String) (x : V) (H : Hp) : Prop := match x with
  | .str _ => T = "str"
  | .int _ => T = "int"
  | .ref p => (T = "list" ∧ ∃ xs, SqL K H p xs) ∨ (T = "tuple" ∧ ∃ o, K.lookup p = some o ∧ o.cls = .type "tuple" ∧ o.dict = none) ∨
      (T = "dict" ∧ ((∃ kvs, H p = some (.dK kvs)) ∨ ∃ kvs, H p = some (.dT kvs))) ∨ (T = "set" ∧ ∃ S n, H p = some (.set S n))
  | _ => False
theorem tyV_is {pins : List (Addr × Obj)} {σ : St} {H : Hp} {s : Shared} {T : String} {x : V} {v : Value} (I : Inv X pins σ H s) (r : RelV x v) (ty : tyV X.K T x H) :
    s.TypeIs v T ∧ ∀ a, v = .ref a → ∃ ob, s.heap.get? a = some ob ∧ ob.dict = none := by
  cases x with
  | str z =>
    obtain ⟨t, rfl⟩ := r
    cases (show T = "str" from ty)
    exact ⟨typeIs_str s z t, fun _ e => nomatch e⟩
  | int i =>
    obtain ⟨t, rfl⟩ := r
    cases (show T = "int" from ty)
    exact ⟨typeIs_int s i t, fun _ e => nomatch e⟩
  | ref p =>
    cases r
    rcases ty with ⟨rfl, xs, hq⟩ | ⟨rfl, o, hk, hc, hd⟩ | ⟨rfl, hk⟩ | ⟨rfl, S, n, hk⟩
    · obtain ⟨its, _, pl, _⟩ := I.list hq
      refine ⟨pl.isList.typeIs, fun a e => ?_⟩
      cases e
      obtain ⟨o, n, e, c, hd, _⟩ := pl
      exact ⟨o, e, hd⟩
    · refine ⟨⟨o, I.kIn p o hk, hc⟩, fun a e => ?_⟩
      cases e
      exact ⟨o, I.kIn _ o hk, hd⟩
    · have z : ∃ o, s.heap.get? p = some o ∧ o.ExactDict := by
        rcases hk with ⟨kvs, hk⟩ | ⟨kvs, hk⟩
        · obtain ⟨_, _, _, _, o, _, _, e, ex, _⟩ := I.hok p _ hk
          exact ⟨o, e, ex⟩
        · obtain ⟨_, _, _, _, o, _, _, e, ex, _⟩ := I.hok p _ hk
          exact ⟨o, e, ex⟩
      obtain ⟨o, e, ex⟩ := z
      refine ⟨⟨o, e, ex.1⟩, fun a e2 => ?_⟩
      cases e2
      exact ⟨o, e, ex.2.1⟩
    · obtain ⟨o, _, _, _, e, ex, _⟩ := I.hok p _ hk
      refine ⟨⟨o, e, ex.1⟩, fun a e2 => ?_⟩
      cases e2
      exact ⟨o, e, ex.2.1⟩
  | _ => exact False.elim ty
def tBM (K : PySem.W.Frag) (T : String) (r : V → List V → Hp → VK → Prop) (to : TE) (t : TA) : TE := fun σ H Q => to σ H fun x H1 => tyV K T x H1 ∧ t σ H1 fun xs H2 => r x xs H2 Q
variable {o e : Expr} {es : List Expr} {to : TE} {t : TA} {name : Str} {apos cpos : Pos} {T id : String} {r : V → List V → Hp → VK → Prop}
theorem pe_bm (pa : PlainAttrs T) (slot : Slot T name id) (hty : typeOf (.builtin id) = pure (.type "method_descriptor")) (hm : MtR X id r) (ho : PE X o to) (ha : PA X (e :: es) t)
    (hbase : attributeBase o name X.env (eval o X.env) = eval o X.env := by rfl)
    (hfew : ((backTo cpos (starEach (e :: es) X.env)).all (fun x => !x.1) && (backToKw cpos (keywordEach [] X.env)).all (fun x => x.1.isSome)
      && decide ((e :: es).length + ([] : List Keyword).length + (if ([] : List Keyword).isEmpty then 0 else 1) < 30)) = true := by rfl)
    (hline : (apos.endLine == cpos.line) = true := by rfl) (hs : starEach (e :: es) X.env = (false, eval e X.env) :: starEach es X.env := by rfl) (hplain : (backTo cpos (starEach es X.env)).any (·.1) = false := by rfl) :
    PE X (.Call (.Attribute o name apos) (e :: es) [] cpos) (tBM X.K T r to t) := by
  intro pins s σ H Q I h
  refine wpAny_Call_method_late hbase hfew hline rfl (thn (ho pins s σ H _ I h) fun v s1 ⟨x, H1, I1, r1, ty, q1⟩ => ?_)
  obtain ⟨h1, h2⟩ := tyV_is I1 r1 ty
  refine ⟨T, id, pa, slot, hty, h1, h2, ?_⟩
  have hA := ha cpos pins s1 σ H1 _ I1 q1
  rw [hs] at hA ⊢
  refine Calls.callWith_builtin (by show (false || (backTo cpos (starEach es X.env)).any (·.1)) = false; rw [hplain] <;> rfl) (Calls.evalArgs_plain ?_)
  exact thn hA fun us s2 ⟨vs, H2, I2, r2, q2⟩ => hm pins s2 σ H2 x vs v us Q I2 r1 r2 q2
/- xs.append(e), list.index on a module's tuple .. are MtR facts of 06m -/
end
end L2

namespace L2
open PySem PySem.Spec PyProof.Rows

def MtM (X : Cx) (id : String) (r : V → List V → Hp → VK → Prop) : Prop :=
  ∀ (pins : List (Addr × Obj)) (s : Shared) (σ : St) (H : Hp) (x : V) (xs : List V) (v : Value) (us : List Value) (Q : VK), Inv X pins σ H s → RelV x v → Vals xs us → r x xs H Q →
    wpAny (model X.prog X.w) X.A (call (.builtin id) (v :: us)) (EP X pins σ Q) X.xe s

/-! ### lists of values -/
theorem Vals.one : ∀ {x : V} {us : List Value}, Vals [x] us → ∃ u, us = [u] ∧ RelV x u := by
  intro x us h
  cases h with | cons r t => cases t; exact ⟨_, rfl, r⟩
section
variable {X : Cx} {pins : List (Addr × Obj)} {σ : St} {H : Hp} {s : Shared} {l b : Addr} {xs ys zs : List V}

/-! ### the two steps: a tracked list is rewritten, a new list is laid -/
theorem Inv.lset {its its' : List Value} {n : Nat} {f : Array Value → Array Value} {t' : Nat} (I : Inv X pins σ H s) (hH : H l = some (.lst xs))
    (e : s.heap.get? l = some { cls := .type "list", data := .seq its.toArray n }) (hf : f its.toArray = its'.toArray) (hv : Vals ys its') (hz : ys.length ≤ sizeLine) :
    Inv X pins σ (upd H l (.lst ys)) { s with heap := s.heap.update l (Obj.mapSeq f), toks := t' } := by
  have q := PySem.IsL.update e f
  rw [hf] at q
  refine I.write (x := l) (e := l) (by rw [hH]; exact trivial) (.inl rfl) (fun b' u hb hu => (Heap.get?_update_other s.heap (Obj.mapSeq f) (Ne.symm hb)).trans hu) ⟨_, q⟩ ?_
  exact ⟨hz, its', _, hv, q⟩
theorem Inv.lnew {its : List Value} {t' : Nat} (I : Inv X pins σ H s) (hv : Vals ys its) (hz : ys.length ≤ sizeLine) :
    Inv X pins σ (upd H s.heap.objs.size (.lst ys)) { s with heap := s.heap.push { cls := .type "list", data := .seq its.toArray }, toks := t' } :=
  I.laid (fun _ _ q => Heap.get?_push_of_some _ q) (Nat.le_refl _) ⟨hz, its, 0, hv, Heap.get?_push_size _ rfl⟩
theorem Inv.fresh (I : Inv X pins σ H s) : H s.heap.objs.size = none := I.hok.fresh (Nat.le_refl _)
theorem Inv.lstM (I : Inv X pins σ H s) (hH : H l = some (.lst xs)) : xs.length ≤ sizeLine ∧ ∃ (its : List Value) (n : Nat), Vals xs its ∧ xs.length = its.length ∧ s.heap.get? l = some { cls := .type "list", data := .seq its.toArray n } := by
  obtain ⟨z, its, n, r, e⟩ := I.hok l _ hH
  exact ⟨z, its, n, r, r.length, e⟩

end

section
variable {X : Cx}

/-! ### methods -/
def rAppend : V → List V → Hp → VK → Prop := fun x vs H Q => ∃ l xs y, x = .ref l ∧ vs = [y] ∧ H l = some (.lst xs) ∧ xs.length < sizeLine ∧ Q .non (upd H l (.lst (xs ++ [y])))
theorem mt_append : MtM X "list.append" rAppend := by
  intro pins s σ H x vs v us Q I rx rv h
  obtain ⟨l, xs, y, rfl, rfl, hH, hz, q⟩ := h
  cases rx
  obtain ⟨u, rfl, ru⟩ := rv.one
  obtain ⟨z, its, n, r, hl, e⟩ := I.lstM hH
  refine call_meets F.slot_list_append ⟨_, e, rfl⟩ F.entry_list_append (F.args_list_append_2 _ _) (PySem.list_append l its.toArray n u (by rw [List.size_toArray]; omega)) ⟨e, ?_⟩
  refine ⟨.non, _, I.lset (its' := its ++ [u]) hH e (by simp) (r.append (.cons ru .nil)) ?_, rfl, q⟩
  rw [List.length_append, List.length_singleton]
  omega

/-! ### list + list, list += list, list * int -/
def rCat : R2 := fun x y H Q => ∃ l b xs zs, x = .ref l ∧ y = .ref b ∧ H l = some (.lst xs) ∧ H b = some (.lst zs) ∧ xs.length + zs.length ≤ sizeLine ∧ ∀ p, H p = none → Q (.ref p) (upd H p (.lst (xs ++ zs)))
theorem op_cat : OpR X (binaryOp .Add) rCat := by
  intro pins s σ H x y v u Q I rx ry h
  obtain ⟨l, b, xs, zs, rfl, rfl, hH, hB, hz, q⟩ := h
  cases rx
  cases ry
  obtain ⟨z, its, n, r, hl, e⟩ := I.lstM hH
  obtain ⟨z2, its2, n2, r2, hl2, e2⟩ := I.lstM hB
  refine PySem.P.add_list e e2 ?_ (by rw [List.size_toArray, List.size_toArray]; omega)
  have ea : its.toArray ++ its2.toArray = (its ++ its2).toArray := by simp
  rw [ea]
  exact ⟨.ref _, _, I.lnew (t' := s.toks) (r.append r2) (by rw [List.length_append]; omega), rfl, q _ I.fresh⟩
/-! ### del xs[i] -/
end

/-! ### xs[a:b] = ys -/
section
variable {prog : Program} {w : World} {A : Around} {E : Value → Shared → Prop} {s : Shared}
end

section
variable {X : Cx}
end
end L2

namespace Att
open PySem PySem.W PySem.Calls PyProof.Rows

/-! ### the script -/
theorem ints_of_wellAll {P : Params} {h : Heap} : ∀ (ns : List Int) (vs : List Value), WellAll P h vs (ns.map WData.int) → IntsAre vs ns := by
  intro ns
  induction ns with
  | nil =>
    intro vs w
    rw [List.map_nil] at w
    cases w
    exact .nil
  | cons n ns ih =>
    intro vs w
    rw [List.map_cons] at w
    cases w with
    | cons a b =>
      cases a
      exact .cons _ _ (ih _ b)

theorem script_of {l : OpenLaw} {n : Nat} (hn : l.most = some n) {P : Params} {h : Heap} {args : List WData} {vals : List Value}
    (hpre : l.row.toRowW.claim.pre args = true) (hwl : WellAll P h vals args) :
    ∃ a vs ns, vals = [Value.ref a] ∧ args = [WData.list (ns.map WData.int)] ∧ h.get? a = some { cls := .type "list", data := .seq vs.toArray } ∧ IntsAre vs ns ∧ ns.length ≤ n := by
  have hsh : WShape.hasAll [] args [.list .int] = true := (pre_splitW hpre).1
  have hc : l.pre.holds [] { args := args } = true := (pre_splitW hpre).2
  obtain ⟨d, r, rfl, h1, h2⟩ := hasAllW_cons hsh
  obtain rfl := hasAllW_nil h2
  obtain ⟨xs, rfl, h3⟩ := hasW_list h1
  obtain ⟨ns, rfl⟩ := items_int h3
  have hlen : ns.length ≤ n := by
    unfold OpenLaw.pre at hc
    have h4 : (WTm.not (.lt (.lit (.int (n : Int))) (.len (.arg 0)))).holds [] { args := [.list (ns.map .int)] } = true := by
      have h4 := (holds_andW hc).1
      rw [hn] at h4
      exact h4
    have h5 := condW_of h4 (w_not (w_lt w_lit (w_len_list (w_arg rfl))))
    rw [List.length_map] at h5
    refine Nat.le_of_not_lt fun q => ?_
    have q' : (n : Int) < ((ns.length : Nat) : Int) := by omega
    first
      | (rw [decide_eq_true q'] at h5; exact absurd h5 (by decide))
      | (simp at h5; omega)
  cases hwl with
  | cons w1 w2 =>
    cases w2
    cases w1 with
    | list ho hall => exact ⟨_, _, ns, rfl, rfl, ho, ints_of_wellAll ns _ hall, hlen⟩

theorem post_true (l : OpenLaw) (args : List WData) : l.row.toRowW.claim.post args (.bool true) args = true :=
  postW_of (r := l.row.toRowW) (X := (true == true))
    (show WShape.has [] (.bool true) .bool = true by first | rfl | decide | simp [WShape.has, WShape.arms, WShape.armsAll])
    (show (WTm.eq .res (.lit (.bool true))).value [] { args := args, res := some (.bool true), after := args } = some (.bool (true == true)) from w_eq_bool (w_res rfl) w_lit) rfl

/-! ### the attachment: holds_open's last premise (the goal 'hc' behind k_head) from a wpAny of the law's body -/
/-- the same from a codeAny of the CALL (for a layer whose function contracts speak of calls) -/
theorem attach_call {l : OpenLaw} {n : Nat} {q : Program} {loose : List Str} {XP : (Str → Option Value) → Heap → Prop} {YP : World → Heap → Prop} {d : DefRec}
    (hn : l.most = some n) (hdf : d.params.defaults = [])
    (call : ∀ (w : World) (s₀ s₁ : Shared) (mg mb : Str → Option Value) (fa : Addr) (o : Obj) (pm cd doc : Value) (a : Addr) (vs : List Value) (ns : List Int),
      Ground q loose [] XP w s₀ mg mb s₁.heap → YP w s₁.heap →
      s₁.heap.get? fa = some o → o.data = .func (docDef d.name d.params d.body d.scope pm cd doc) → s₁.heap.CodeRec cd d.name → mg d.name = some (.ref fa) →
      s₁.heap.get? a = some { cls := .type "list", data := .seq vs.toArray } → IntsAre vs ns → ns.length ≤ n → s₁.gens = #[] →
      codeAny (model l.prog w) callerA (.call (.ref fa) ⟨[.ref a], []⟩) (fun r s' => r = .ok (.ret (.bool true)) ∧ OldK s₁.heap s'.heap ∧ s'.os = s₁.os ∧ AllBare s'.gens) s₁) :
    WalkO q loose XP YP l.row.toRowW d [] (fun f vs => PySem.call f vs) := by
  intro w s₀ s₁ mg mb G Y fa o pm cd doc dV kV ho hd hcd hD hmg hg args vals as hpre hlay hrd hwl hlo
  obtain rfl : dV = .none := Dflts.none hD hdf
  obtain rfl : kV = .none := Dflts.noKw hD
  obtain ⟨a, vs, ns, rfl, rfl, hobj, hints, hlen⟩ := script_of hn hpre hwl
  refine enter_call (codeAny_mono (call w s₀ s₁ mg mb fa o pm cd doc a vs ns G Y ho (fd_plain hd) hcd hmg hobj hints hlen hg) fun r s' hq => ?_)
  obtain ⟨rfl, h2, h3, h4⟩ := hq
  exact ⟨.inl ⟨.bool true, .bool true, [], rfl, fun _ => rfl, .bool true, post_true l _, fun _ => ⟨List.Pairwise.nil, fun _ hm => (nomatch hm)⟩⟩, h2, h3, h4⟩

/-! ### rules over ANY heap (no ledger) from facts about the written part K: the library's own take a ledger (News) for what they write -/
section
variable {prog : Program} {w : World} {A : Around} {E : Value → Shared → Prop} {s : Shared} {K : Frag}

/-! the whole heap as the ledger: makes every rule that writes through a ledger a rule over any heap -/
def ledger (h : Heap) (L d : Addr) : List (Addr × Obj) := (List.range h.objs.size).filterMap fun a => if a = L ∨ a = d then none else (h.get? a).map fun o => (a, o)
end
end Att

namespace L2
open PySem PySem.Spec PyProof.Rows

theorem vals_ints : ∀ {vs : List Value} {ns : List Int}, IntsAre vs ns → Vals (ns.map V.int) vs := by
  intro vs ns h
  induction h with
  | nil => exact .nil
  | cons n t h ih => exact .cons ⟨t, rfl⟩ ih

/-- nothing is tracked but the script, known to the object (or it is an object of the module) -/
def Only (H : Hp) : Prop := ∀ b, H b = none ∨ ∃ o xs, H b = some (.frz o (.lst xs))

/-- THE HEAD: the law's promise, at the heap behind the top. F, the promise of the law's def, may use that base is part of the heap (so K.In base, base.Ns mainGlobals mg stand in Mod) -/
theorem law_call {P : Program} {w : World} {K : PySem.W.Frag} {mg mb : Str → Option Value} {CX : CXT} {k : Nat} {fa a : Addr} {fd : FuncData} {x : Str} {sp : Sp} {s₁ : Shared} {vs : List Value} {ns : List Int}
    (KX : K.In s₁.heap) (hns : s₁.heap.Ns mainGlobals mg) (hb : s₁.heap.Ns builtinsNs mb) (hbb : ∀ x : Str, x ≠ "__name__" → mb x = bootBuiltins x) (hlim : s₁.heap.NoLimit) (hg : s₁.gens = #[])
    (ha : s₁.heap.get? a = some { cls := .type "list", data := .seq vs.toArray }) (hi : IntsAre vs ns) (hl : ns.length ≤ sizeLine) (hr : Room k callerA)
    (F : ∀ base : Heap, K.In base → base.Ns mainGlobals mg → FnOk P w K mg base CX k fa fd [x] sp) (hbind : ∀ (s : Shared) (u : Value), BindsTo s fd ⟨[u], []⟩ [(x, u)])
    (hsp : ∀ H : Hp, Only H → SqL K H a (ns.map V.int) → sp [.ref a] H (fun v _ => v = .bl true) fun _ _ _ => False)
    (hCX : ∀ H e s', CX [] H s₁ (fun _ _ _ => False) e s' → False) :
    codeAny (model P w) callerA (.call (.ref fa) ⟨[.ref a], []⟩) (fun r s' => r = .ok (.ret (.bool true)) ∧ OldK s₁.heap s'.heap ∧ s'.os = s₁.os ∧ AllBare s'.gens) s₁ := by
  have rv := vals_ints hi
  have lenV := hi.length
  -- from an abstract heap in which nothing but the script may be tracked
  have core : ∀ H : Hp, Only H → SqL K H a (ns.map V.int) → HOk P w H s₁.heap → (∀ b, H b ≠ none → b = a) → (H a ≠ none → K.lookup a = none) →
      codeAny (model P w) callerA (.call (.ref fa) ⟨[.ref a], []⟩) (fun r s' => r = .ok (.ret (.bool true)) ∧ OldK s₁.heap s'.heap ∧ s'.os = s₁.os ∧ AllBare s'.gens) s₁ := by
    intro H hO hS hok hA hK
    have base_of : ∀ {b : Addr} {o : Obj}, s₁.heap.get? b = some o → H b = none → (hidT s₁.heap H).get? b = some o := fun e n => hidT_get e n
    have noA : ∀ {b : Addr} {o : Obj} {es : Array DictEntry} {ep : Nat}, s₁.heap.get? b = some o → o.data = .dict es ep → H b = none := fun {b o es ep} e d => by
      cases q : H b with
      | none => rfl
      | some u =>
        have e' : b = a := hA b (by rw [q]; simp)
        subst e'
        rw [ha] at e; cases e
        have d' : Data.seq vs.toArray _ = Data.dict es ep := d
        cases d'
    have nsK : ∀ {b : Addr} {m : Str → Option Value}, s₁.heap.Ns b m → (hidT s₁.heap H).Ns b m := fun {b m} ⟨o, es, ep, e, d, r⟩ => ⟨o, es, ep, base_of e (noA e d), d, r⟩
    have hKb : K.In (hidT s₁.heap H) := fun b o e => base_of (KX b o e) (by
      cases q : H b with
      | none => rfl
      | some u =>
        have e' : b = a := hA b (by rw [q]; simp)
        subst e'
        rw [hK (by rw [q]; simp)] at e; cases e)
    have hM : Mod K mg (hidT s₁.heap H) := ⟨hKb, nsK hns, ⟨mb, nsK hb, hbb⟩, let ⟨mc, h1, h2⟩ := hlim; ⟨mc, nsK h1, h2⟩⟩
    have e0 : Env0 P w K mg (hidT s₁.heap H) callerA [] s₁ H := ⟨rfl, hM, fun b o e => of_hidT e, Nat.le_of_eq (hidT_size _ _), trivial, fun b hb => absurd (show b ∈ ([] : List Addr) from hb) (by simp), hok, .of_eq hg⟩
    refine codeAny_mono ((F _ hKb (nsK hns)).run callerA [] s₁ H ⟨[.ref a], []⟩ [.ref a] [.ref a] _ _ hr e0 (hbind s₁ (.ref a)) (.cons rfl .nil) (hsp H hO hS)) fun r s' h => ?_
    cases r with
    | error e => exact (hCX H e s' h).elim
    | ok fl =>
      cases fl with
      | next => exact False.elim h
      | brk => exact False.elim h
      | cont => exact False.elim h
      | ret u =>
        obtain ⟨v, H', os, bare, un, hok', r', q⟩ := h
        have q' : v = .bl true := q
        subst q'
        obtain rfl : u = Value.bool true := r'
        refine ⟨rfl, OldK.of_keep fun b o e => ?_, os, bare⟩
        cases q : H b with
        | none => exact un.keep b o e q (by intro z; exact absurd (show b ∈ ([] : List Addr) from z) (by simp)) (by simp)
        | some u =>
          rcases hO b with z | ⟨ob, xs, z⟩
          · rw [q] at z; cases z
          · have z2 := un.frzs b ob _ z
            obtain ⟨e1, _⟩ := hok b _ z
            obtain ⟨e2, _⟩ := hok' b _ z2
            rw [e] at e1; cases e1
            exact e2
  cases hk : K.lookup a with
  | some o =>
    -- the script is one of the module's own objects
    have e := KX a o hk
    rw [ha] at e
    cases e
    refine core (fun _ => none) (fun _ => .inl rfl) (.inr ⟨_, vs.toArray, _, hk, rfl, rfl, rfl, by rw [List.size_toArray, lenV]; exact hl, by simpa using rv⟩) (fun b u z => by have z' : (none : Option HO) = some u := z; cases z') (fun b z => absurd rfl z) fun z => absurd rfl z
  | none =>
    refine core (fun b => if b = a then some (.frz { cls := .type "list", data := .seq vs.toArray } (.lst (ns.map V.int))) else none) (fun b => ?_) (.inl (.inr ⟨{ cls := .type "list", data := .seq vs.toArray }, if_pos rfl⟩)) (fun b u z => ?_) (fun b z => ?_) fun _ => hk
    · by_cases hb : b = a
      · exact .inr ⟨_, _, if_pos hb⟩
      · exact .inl (if_neg hb)
    · by_cases hb : b = a
      · have z' := (if_pos hb).symm.trans z
        cases z'
        subst hb
        exact ⟨ha, by rw [List.length_map]; exact hl, vs, _, rv, ha⟩
      · have z' := (if_neg hb).symm.trans z
        cases z'
    · by_cases hb : b = a
      · exact hb
      · exact absurd (if_neg hb) z
end L2

namespace L2
open PySem PySem.Spec PyProof.Rows

/-- the goal that k_head leaves (case hc), from the law's promise. F gives the function object fd (K's own) once, then the promise over every base -/
theorem walk_of {l : PySem.W.OpenLaw} {n k : Nat} {q : Program} {loose : List Str} {XP : (Str → Option Value) → Heap → Prop} {YP : World → Heap → Prop} {d : DefRec} {K : Params → PySem.W.Frag} {CX : World → CXT} {sp : World → Sp} {x : Str}
    (hn : l.most = some n) (hn2 : n ≤ sizeLine) (hdf : d.params.defaults = []) (hr : Room k callerA)
    (hY : ∀ (w : World) (h : Heap), YP w h → (K w.params).In h)
    (F : ∀ (w : World) (mg : Str → Option Value) (fa : Addr) (h : Heap), (K w.params).In h → h.Ns mainGlobals mg → mg d.name = some (.ref fa) →
      ∃ fd : FuncData, (∀ (s : Shared) (u : Value), BindsTo s fd ⟨[u], []⟩ [(x, u)]) ∧
        ∀ base : Heap, (K w.params).In base → base.Ns mainGlobals mg → FnOk l.prog w (K w.params) mg base (CX w) k fa fd [x] (sp w))
    (hsp : ∀ (w : World) (H : Hp) (a : Addr) (ns : List Int), ns.length ≤ n → Only H → SqL (K w.params) H a (ns.map V.int) → sp w [.ref a] H (fun v _ => v = .bl true) fun _ _ _ => False)
    (hCX : ∀ (w : World) (H : Hp) (s : Shared) (e : Value) (s' : Shared), CX w [] H s (fun _ _ _ => False) e s' → False) :
    PySem.W.WalkO q loose XP YP l.row.toRowW d [] (fun f vs => PySem.call f vs) := by
  refine Att.attach_call hn hdf fun w s₀ s₁ mg mb fa o pm cd doc a vs ns G Y ho hd hcd hmg hobj hints hlen hg => ?_
  have KX := hY w _ Y
  obtain ⟨fd, hb, hF⟩ := F w mg fa _ KX G.T.g hmg
  exact law_call KX G.T.g G.T.b G.T.builtins G.T.nolimit hg hobj hints (Nat.le_trans hlen hn2) hr hF hb (fun H hO hS => hsp w H a ns hlen hO hS) fun H e s' => hCX w H s₁ e s'
end L2

/-! SHORT WORDS over the layer: a def of the text, its body, what a loop and a test want. -/
namespace L2
open PySem PySem.Spec PyProof.Rows

/-! ### the text by places -/
def defArgs (s : Stmt) : Arguments := match s with
  | .FunctionDef _ a _ _ _ _ _ _ _ _ => a
  | _ => { posonlyargs := [], args := [], vararg := none, kwonlyargs := [], kw_defaults := [], kwarg := none, defaults := [] }
def defBody (s : Stmt) : List Stmt := match s with
  | .FunctionDef _ _ b _ _ _ _ _ _ _ => b
  | _ => []
def defScope (s : Stmt) : Scope := match s with
  | .FunctionDef _ _ _ _ _ _ sc _ _ _ => sc
  | _ => { kind := .function, names := [], isGenerator := false, isCoroutine := false }

/-! ### no exception leaves a def -/
abbrev CX0 : CXT := fun _ _ _ _ _ _ => False
abbrev E0 : XK := fun _ _ _ => False
theorem pass0 {X : Cx} : Passes CX0 X E0 := fun _ _ _ _ _ _ _ h => h.elim

/-! ### a def (or method) of the text as it stands behind the top -/
structure Fun (K : PySem.W.Frag) (x qual : Str) (st : Stmt) (f : Addr) (fd : FuncData) : Prop where
  ex : ∃ (oc : Value) (od : Option Addr) (kV doc pm : Value) (an : Option Addr) (cdv ct : Value) (osl : Array (Option Value)),
    fd = PySem.W.fnOf x qual (defArgs st) (defBody st) (defScope st) .none kV doc pm an cdv ct ∧ K.lookup f = some ⟨oc, od, .func fd, osl⟩ ∧ PySem.W.codeIn K cdv qual = true
  kp : PySem.W.keepIn K (.ref f) = true
section
variable {P : Program} {w : World} {K : PySem.W.Frag} {mg : Str → Option Value} {base : Heap}
/-- THE RULE for a def: its body as a term of rules, and the reading of that term -/
theorem Fun.ok {x qual : Str} {st : Stmt} {f : Addr} {fd : FuncData} {N ps : List Str} {k : Nat} {sp : Sp} (F : Fun K x qual st f fd) (S : FnScope N ps (defScope st)) (len : ∀ vs H Q E, sp vs H Q E → vs.length = ps.length)
    (hbody : ∀ (cdv : Value) (A : Around) (outer : List Env) (s : Shared) (H : Hp) (vs : List V) (Q : VK) (E : XK), Room k (A.deeper (envOfC qual (defScope st) s.heap.objs.size f cdv)) → sp vs H Q E →
      ∃ t, PSs (cxOf CX0 P w K mg base N qual (defScope st) f cdv A outer s H E).nox (defBody st) t ∧ t { nx := fun _ H' => Q .non H', rt := Q } (start N vs) H) : FnOk P w K mg base CX0 (k + 1) f fd ps sp := by
  obtain ⟨oc, od, kV, doc, pm, an, cdv, ct, osl, rfl, lk, hcd⟩ := F.ex
  refine fn_of lk hcd S len fun A outer s H vs Q E hr hsp => ?_
  obtain ⟨t, h, q⟩ := hbody cdv A outer s H vs Q E hr hsp
  exact ⟨t, h.nox, q⟩
/-- how its arguments bind (no defaults): h is «fun _ _ _ _ _ _ us hl => match us, hl with | [_, _], _ => rfl», one _ a parameter -/
theorem Fun.binds {x qual : Str} {st : Stmt} {f : Addr} {fd : FuncData} {ps : List Str} (F : Fun K x qual st f fd)
    (h : ∀ (kV doc pm : Value) (an : Option Addr) (cdv ct : Value) (us : List Value), us.length = ps.length → bindArgs (PySem.W.fnOf x qual (defArgs st) (defBody st) (defScope st) .none kV doc pm an cdv ct) ⟨us, []⟩ = pure (ps.zip us)) : Binds K fd ps [] := by
  obtain ⟨oc, od, kV, doc, pm, an, cdv, ct, osl, rfl, lk, hcd⟩ := F.ex
  exact .all (h kV doc pm an cdv ct)
theorem fun_mk {x qual : Str} {st : Stmt} {f : Addr} {oc : Value} {od an : Option Addr} {osl : Array (Option Value)} {kV doc pm cdv ct : Value} (l : K.lookup f = some ⟨oc, od, .func (PySem.W.fnOf x qual (defArgs st) (defBody st) (defScope st) .none kV doc pm an cdv ct), osl⟩)
    (c : PySem.W.codeIn K cdv qual = true) (k : PySem.W.keepIn K (.ref f) = true) : Fun K x qual st f (PySem.W.fnOf x qual (defArgs st) (defBody st) (defScope st) .none kV doc pm an cdv ct) := ⟨⟨oc, od, kV, doc, pm, an, cdv, ct, osl, rfl, l, c⟩, k⟩
end
theorem hu_of {A : Around} {k : Nat} (hr : Room k A) : A.units + 1 < cLine := Nat.lt_of_le_of_lt (Nat.add_le_add_left (by decide : 1 ≤ 64) _) hr.units
theorem small1000 {n : Nat} (h : n ≤ 1000) : n < sizeLine := Nat.lt_of_le_of_lt h (by decide)

/-! ### expressions in short: the name that stands in the i-th slot -/
section
variable {X : Cx}
theorem pv (i : Nat) {x : Str} {pos : Pos} (hN : X.N[i]? = some x := by rfl) (hv : Vis X.env.scope x := by first | exact Or.inl rfl | exact Or.inr (Or.inl rfl) | exact Or.inr (Or.inr rfl)) (hd : (x == ("__debug__" : Str)) = false := by decide)
    (hcd : (x == ("__classdict__" : Str)) = false := by decide) : PE X (.Name x pos) (tVar i) := pe_var hN hv hd hcd
end

/-! ### tests -/
theorem iteF {A B : Prop} (h : B) : if false = true then A else B := by
  rw [if_neg Bool.false_ne_true]
  exact h
theorem iteT {A B : Prop} (h : A) : if true = true then A else B := by
  rw [if_pos rfl]
  exact h
/-! ### heaps -/
/-- all that was tracked is as it was -/
def Same (H H' : Hp) : Prop := ∀ b o, H b = some o → H' b = some o
theorem Same.refl (H : Hp) : Same H H := fun _ _ h => h
theorem Same.trans {H H1 H2 : Hp} (a : Same H H1) (b : Same H1 H2) : Same H H2 := fun c o h => b c o (a c o h)
theorem Same.free {H H' : Hp} (e : Same H H') {l : Addr} (h : H' l = Option.none) : H l = Option.none := by
  cases q : H l with
  | none => rfl
  | some o =>
    rw [e l o q] at h
    cases h
end L2

set_option maxHeartbeats 4000000
namespace L2
open PySem PySem.Spec PyProof.Rows
/-! ### lists of pairs as tables -/
section
variable {κ : Type} [DecidableEq κ]
def valV (kvs : List (κ × V)) (k : κ) : Option V := (kvs.find? fun kv => decide (kv.1 = k)).map (·.2)
/-- in its place, or at the end -/
def putK (kvs : List (κ × V)) (k : κ) (v : V) : List (κ × V) :=
  if (kvs.any fun kv => decide (kv.1 = k)) = true then kvs.map (fun kv => if kv.1 = k then (kv.1, v) else kv) else kvs ++ [(k, v)]
theorem valV_pos {p : κ × V} {r : List (κ × V)} {k : κ} (e : p.1 = k) : valV (p :: r) k = some p.2 := by simp [valV, List.find?_cons, e]
theorem valV_neg {p : κ × V} {r : List (κ × V)} {k : κ} (e : ¬ p.1 = k) : valV (p :: r) k = valV r k := by simp [valV, List.find?_cons, e]
theorem valV_any (k : κ) : ∀ kvs : List (κ × V), (kvs.any fun kv => decide (kv.1 = k)) = (valV kvs k).isSome
  | [] => rfl
  | p :: r => by
    rw [List.any_cons]
    by_cases e : p.1 = k
    · simp only [valV_pos e, decide_eq_true e, Bool.true_or, Option.isSome_some]
    · rw [valV_neg e, decide_eq_false e, Bool.false_or]; exact valV_any k r
theorem valV_snoc (k j : κ) (y : V) : ∀ kvs : List (κ × V), valV kvs k = none → valV (kvs ++ [(k, y)]) j = if j = k then some y else valV kvs j
  | [], _ => by
    by_cases e : k = j
    · rw [if_pos e.symm]; exact valV_pos (p := (k, y)) e
    · rw [if_neg (fun z => e z.symm)]; exact valV_neg (p := (k, y)) e
  | p :: r, hn => by
    rw [List.cons_append]
    have hk : ¬ p.1 = k := fun z => by rw [valV_pos z] at hn; cases hn
    rw [valV_neg hk] at hn
    have ih := valV_snoc k j y r hn
    by_cases e : p.1 = j
    · rw [valV_pos e, valV_pos e, if_neg (fun z => hk (e.trans z))]
    · rw [valV_neg e, valV_neg e, ih]
theorem length_putK (kvs : List (κ × V)) (k : κ) (v : V) : (putK kvs k v).length ≤ kvs.length + 1 := by
  unfold putK
  split
  · rw [List.length_map]; omega
  · rw [List.length_append, List.length_cons, List.length_nil]; omega
theorem putK_new {kvs : List (κ × V)} {k : κ} (v : V) (h : valV kvs k = none) : putK kvs k v = kvs ++ [(k, v)] := by
  unfold putK
  rw [valV_any, h]
  exact if_neg (by decide)

theorem RelO.isSome_eq {o : Option V} {u : Option Value} (r : RelO o u) : o.isSome = u.isSome := by
  cases o with
  | none => cases u with
    | none => rfl
    | some _ => exact (show False from r).elim
  | some _ => cases u with
    | none => exact (show False from r).elim
    | some _ => rfl
theorem RelO.getD {o : Option V} {u : Option Value} {d : V} {d' : Value} (r : RelO o u) (rd : RelV d d') : RelV (o.getD d) (u.getD d') := by
  cases o with
  | none => cases u with
    | none => exact rd
    | some _ => exact (show False from r).elim
  | some _ => cases u with
    | none => exact (show False from r).elim
    | some _ => exact r

/-- raw tables of the same keys -/
theorem KV.val {kvs : List (κ × V)} {vs : List (κ × Value)} (r : KV kvs vs) (k : κ) : RelO (valV kvs k) (valueAt vs k) := by
  unfold KV at r
  induction r with
  | nil => exact True.intro
  | @cons p q ps qs h t ih =>
    obtain ⟨h1, h2⟩ := h
    by_cases e : p.1 = k
    · have e' : q.1 = k := h1.symm.trans e
      have b : valueAt (q :: qs) k = some q.2 := by simp [valueAt, List.find?_cons, e']
      rw [valV_pos e, b]; exact h2
    · have e' : ¬ q.1 = k := fun z => e (h1.trans z)
      have b : valueAt (q :: qs) k = valueAt qs k := by simp [valueAt, List.find?_cons, e']
      rw [valV_neg e, b]; exact ih
theorem KV.any {kvs : List (κ × V)} {vs : List (κ × Value)} (r : KV kvs vs) (k : κ) : (kvs.any fun kv => decide (kv.1 = k)) = vs.any fun kv => decide (kv.1 = k) := by
  unfold KV at r
  induction r with
  | nil => rfl
  | cons h t ih => rw [List.any_cons, List.any_cons, ih, h.1]
theorem KV.repl {kvs : List (κ × V)} {vs : List (κ × Value)} (r : KV kvs vs) (k : κ) {y : V} {u : Value} (ry : RelV y u) :
    KV (kvs.map fun kv => if kv.1 = k then (kv.1, y) else kv) (vs.map fun kv => if kv.1 = k then (kv.1, u) else kv) := by
  unfold KV at r ⊢
  induction r with
  | nil => exact .nil
  | @cons p q ps qs h t ih =>
    rw [List.map_cons, List.map_cons]
    refine .cons ?_ ih
    obtain ⟨h1, h2⟩ := h
    by_cases e : p.1 = k
    · rw [if_pos e, if_pos (h1.symm.trans e)]; exact ⟨h1, ry⟩
    · rw [if_neg e, if_neg (fun z => e (h1.trans z))]; exact ⟨h1, h2⟩
theorem KV.put {kvs : List (κ × V)} {vs : List (κ × Value)} (r : KV kvs vs) (k : κ) {y : V} {u : Value} (ry : RelV y u) : KV (putK kvs k y) (stored vs k u) := by
  unfold putK stored
  rw [r.any k]
  by_cases e : (vs.any fun kv => decide (kv.1 = k)) = true
  · rw [if_pos e, if_pos e]; exact r.repl k ry
  · rw [if_neg e, if_neg e]; exact Paired.snoc r ⟨rfl, ry⟩
theorem KV.length {kvs : List (κ × V)} {vs : List (κ × Value)} (r : KV kvs vs) : kvs.length = vs.length := Paired.length r
end


/-! ### a tracked dict, its keys ints and texts or tuples of these -/
theorem kV_is {P : Program} {w : World} {k : Key} {u : Value} (r : RelV (kV k) u) : (mixKind P w).is k u = true := by
  cases k with
  | inl i => obtain ⟨t, e⟩ := (show ∃ t, u = Value.int i t from r); subst e; exact mixKind_int P w i t
  | inr x => obtain ⟨t, e⟩ := (show ∃ t, u = Value.str x t from r); subst e; exact mixKind_str P w x t
theorem items_are {P : Program} {w : World} : ∀ {ks : List Key} {us : List Value}, Vals (ks.map kV) us → ItemsAre (mixKind P w) ks us
  | [], _, r => by rw [List.map_nil] at r; cases r; exact .nil
  | k :: ks, _, r => by
    rw [List.map_cons] at r
    cases r with
    | cons h t => exact .cons (kV_is h) (items_are t)

/-- raw entries of a dict with tuple keys -/
abbrev KT (H : Hp) : List (List Key × V) → List (List Key × Addr × Value) → Prop := Paired fun p q => p.1 = q.1 ∧ H q.2.1 = some (.tup (p.1.map kV)) ∧ RelV p.2 q.2.2
theorem KT.val {H : Hp} {kvs : List (List Key × V)} {xs : List (List Key × Addr × Value)} (r : KT H kvs xs) (k : List Key) : RelO (valV kvs k) ((atKey xs k).map (·.2)) := by
  induction r with
  | nil => exact True.intro
  | @cons p q ps qs h t ih =>
    obtain ⟨h1, _, h2⟩ := h
    by_cases e : p.1 = k
    · have e' : q.1 = k := h1.symm.trans e
      have b : atKey (q :: qs) k = some q.2 := by simp [atKey, List.find?_cons, e']
      rw [valV_pos e, b]; exact h2
    · have e' : ¬ q.1 = k := fun z => e (h1.trans z)
      have b : atKey (q :: qs) k = atKey qs k := by simp [atKey, List.find?_cons, e']
      rw [valV_neg e, b]; exact ih
theorem KT.repl {H : Hp} {kvs : List (List Key × V)} {xs : List (List Key × Addr × Value)} (r : KT H kvs xs) (k : List Key) {y : V} {u : Value} (ry : RelV y u) :
    KT H (kvs.map fun kv => if kv.1 = k then (kv.1, y) else kv) (xs.map (putAt k u)) := by
  induction r with
  | nil => exact .nil
  | @cons p q ps qs h t ih =>
    rw [List.map_cons, List.map_cons]
    refine .cons ?_ ih
    obtain ⟨h1, h2, h3⟩ := h
    unfold putAt
    by_cases e : p.1 = k
    · rw [if_pos e, if_pos (h1.symm.trans e)]; exact ⟨h1, h2, ry⟩
    · rw [if_neg e, if_neg (fun z => e (h1.trans z))]; exact ⟨h1, h2, h3⟩
theorem KT.put {H : Hp} {kvs : List (List Key × V)} {xs : List (List Key × Addr × Value)} (r : KT H kvs xs) (k : List Key) {b : Addr} {y : V} {u : Value} (hb : H b = some (.tup (k.map kV))) (ry : RelV y u) :
    KT H (putK kvs k y) (storedH xs k b u) := by
  have e : (kvs.any fun kv => decide (kv.1 = k)) = (atKey xs k).isSome := by
    rw [valV_any, (r.val k).isSome_eq, Option.isSome_map]
  unfold putK storedH
  rw [e]
  by_cases q : (atKey xs k).isSome = true
  · rw [if_pos q, if_pos q]; exact r.repl k ry
  · rw [if_neg q, if_neg q]; exact Paired.snoc r ⟨rfl, hb, ry⟩
theorem KT.keeps {H H' : Hp} {kvs : List (List Key × V)} {xs : List (List Key × Addr × Value)} (r : KT H kvs xs) (ht : ∀ b ys, H b = some (.tup ys) → H' b = some (.tup ys)) : KT H' kvs xs :=
  Paired.mapP r fun _ _ z => ⟨z.1, ht _ _ z.2.1, z.2.2⟩

section
variable {P : Program} {w : World} {H : Hp} {h : Heap} {a : Addr}
theorem rd_of {u : HO} (ok : HOk P w H h) (e : Rd H a u) : ObjOk P w H h a u := e.ok ok
theorem dk_rd {kvs : List (Key × V)} (ok : HOk P w H h) (e : Rd H a (.dK kvs)) : kvs.length ≤ sizeLine ∧ (a == sysModules) = false ∧ ∃ vs, KV kvs vs ∧ h.DictOf (mixKind P w) a vs :=
  show ObjOk P w H h a (.dK kvs) from rd_of ok e
theorem dk_of {kvs : List (Key × V)} (ok : HOk P w H h) (e : H a = some (.dK kvs)) : kvs.length ≤ sizeLine ∧ (a == sysModules) = false ∧ ∃ vs, KV kvs vs ∧ h.DictOf (mixKind P w) a vs := dk_rd ok (.inl e)
/-- a tracked tuple of ints and texts is a key -/
theorem key_of {ks : List Key} (ok : HOk P w H h) (e : H a = some (.tup (ks.map kV))) : (tupleKind (mixKind P w)).is h ks a := by
  obtain ⟨_, its, r, o, h1, h2, n, h3⟩ := (show ObjOk P w H h a (.tup (ks.map kV)) from ok a _ e)
  exact ⟨o, its.toArray, n, h1, h2, h3, by simpa using items_are r⟩
theorem dt_rd {kvs : List (List Key × V)} (ok : HOk P w H h) (e : Rd H a (.dT kvs)) : kvs.length ≤ sizeLine ∧ (a == sysModules) = false ∧
    ∃ xs, KT H kvs xs ∧ h.DictOfH (tupleKind (mixKind P w)) a xs := by
  obtain ⟨z, y, xs, r, o, es, ep, h1, h2, h3, h4, h5⟩ := (show ObjOk P w H h a (.dT kvs) from rd_of ok e)
  refine ⟨z, y, xs, r, o, es, ep, h1, h2, h3, h4, fun x hx => ?_, h5⟩
  have all : ∀ {l : List (List Key × V)} {m : List (List Key × Addr × Value)}, KT H l m → ∀ x ∈ m, (tupleKind (mixKind P w)).is h x.1 x.2.1 := by
    intro l m q
    induction q with
    | nil => intro x hx; exact nomatch hx
    | @cons p q ps qs hq t ih =>
      intro x hx
      rcases List.mem_cons.mp hx with e | hx
      · subst e
        exact key_of ok (by rw [← hq.1]; exact hq.2.1)
      · exact ih x hx
  exact all r x hx
theorem dt_of {kvs : List (List Key × V)} (ok : HOk P w H h) (e : H a = some (.dT kvs)) : kvs.length ≤ sizeLine ∧ (a == sysModules) = false ∧
    ∃ xs, KT H kvs xs ∧ h.DictOfH (tupleKind (mixKind P w)) a xs := dt_rd ok (.inl e)
end

/-- what the dict at a holds at the key y -/
def DGet (H : Hp) (a : Addr) (y : V) (r : Option V) : Prop :=
  (∃ kvs k, Rd H a (.dK kvs) ∧ y = kV k ∧ r = valV kvs k) ∨ ∃ kvs k b, Rd H a (.dT kvs) ∧ y = .ref b ∧ H b = some (.tup (k.map kV)) ∧ r = valV kvs k
/-- the heap behind a[y] = v -/
def DPut (H : Hp) (a : Addr) (y v : V) (H' : Hp) : Prop :=
  (∃ kvs k, H a = some (.dK kvs) ∧ y = kV k ∧ kvs.length < sizeLine ∧ H' = upd H a (.dK (putK kvs k v))) ∨
  ∃ kvs k b, H a = some (.dT kvs) ∧ y = .ref b ∧ H b = some (.tup (k.map kV)) ∧ kvs.length < sizeLine ∧ H' = upd H a (.dT (putK kvs k v))
theorem DGet.k {H : Hp} {a : Addr} {kvs : List (Key × V)} {k : Key} (e : H a = some (.dK kvs)) : DGet H a (kV k) (valV kvs k) := .inl ⟨kvs, k, .inl e, rfl, rfl⟩
theorem DPut.k {H : Hp} {a : Addr} {kvs : List (Key × V)} {k : Key} {v : V} (e : H a = some (.dK kvs)) (hl : kvs.length < sizeLine) : DPut H a (kV k) v (upd H a (.dK (putK kvs k v))) := .inl ⟨kvs, k, e, rfl, hl, rfl⟩
theorem DPut.t {H : Hp} {a b : Addr} {kvs : List (List Key × V)} {k : List Key} {v : V} (e : H a = some (.dT kvs)) (eb : H b = some (.tup (k.map kV))) (hl : kvs.length < sizeLine) :
    DPut H a (.ref b) v (upd H a (.dT (putK kvs k v))) := .inr ⟨kvs, k, b, e, rfl, eb, hl, rfl⟩


section
variable {X : Cx} {pins : List (Addr × Obj)} {σ : St} {H : Hp} {s : Shared} {a : Addr} {y v : V} {u r : Value} {o : Option V} {A : Around} {E : Value → Shared → Prop}

theorem Inv.big (I : Inv X pins σ H s) : sysModules < s.heap.objs.size := by
  have h : mainGlobals < s.heap.objs.size := (I.mod.glob.keeps I.bk).lt
  exact Nat.lt_trans (by decide) h

/-- d[y], there -/
theorem d_getItem {Q : Value → Shared → Prop} (hu : A.units + 1 < cLine) (I : Inv X pins σ H s) (g : DGet H a y (some v)) (ry : RelV y u) (h : ∀ w' s', Inv X pins σ H s' → RelV v w' → Q w' s') :
    wpAny (model X.prog X.w) A (getItem (.ref a) u) Q E s := by
  rcases g with ⟨kvs, k, e, ey, l⟩ | ⟨kvs, k, b, e, ey, eb, l⟩
  · subst ey
    obtain ⟨z, hd, vs, rel, dd⟩ := dk_rd I.hok e
    obtain ⟨w', hw, rw'⟩ := RelO.some_of (v := v) (o := valueAt vs k) (by rw [l]; exact rel.val k)
    exact wpAny_getItem_of (kV_is ry) dd.mapOf hw (h w' _ (I.tok _) rw')
  · subst ey
    cases (show u = Value.ref b from ry)
    obtain ⟨z, hd, xs, rel, dd⟩ := dt_rd I.hok e
    obtain ⟨w', hw, rw'⟩ := RelO.some_of (v := v) (o := (atKey xs k).map (·.2)) (by rw [l]; exact rel.val k)
    obtain ⟨p, hp, hp2⟩ := Option.map_eq_some_iff.mp hw
    refine wpAny_getItem_heap (tupleKind_room_in1 hu) (key_of I.hok eb) dd hp ?_
    rw [hp2]
    exact h w' _ (I.tok _) rw'
/-- y in d -/
theorem d_in {Q : Value → Shared → Prop} (hu : A.units + 1 < cLine) (I : Inv X pins σ H s) (g : DGet H a y o) (ry : RelV y u) (h : ∀ s', Inv X pins σ H s' → Q (.bool o.isSome) s') :
    wpAny (model X.prog X.w) A (compareOp .In u (.ref a)) Q E s := by
  rcases g with ⟨kvs, k, e, ey, l⟩ | ⟨kvs, k, b, e, ey, eb, l⟩
  · subst ey
    obtain ⟨z, hd, vs, rel, dd⟩ := dk_rd I.hok e
    refine wpAny_in_of (kV_is ry) hd dd.mapOf ?_
    rw [← (rel.val k).isSome_eq, ← l]
    exact h _ (I.tok _)
  · subst ey
    cases (show u = Value.ref b from ry)
    obtain ⟨z, hd, xs, rel, dd⟩ := dt_rd I.hok e
    refine wpAny_in_heap (tupleKind_room_in1 hu) (key_of I.hok eb) hd dd ?_
    have q := (rel.val k).isSome_eq
    rw [Option.isSome_map] at q
    rw [← q, ← l]
    exact h _ (I.tok _)
/-- a dict's object is replaced -/
theorem d_write {h' : Heap} {t' : Nat} {ob : HO} (I : Inv X pins σ H s) (mu : Mut (H a)) (hs : Heap.SameBut a s.heap h') (he : ∃ q, h'.get? a = some q) (new : ObjOk X.prog X.w (upd H a ob) h' a ob) :
    Inv X pins σ (upd H a ob) { s with heap := h', toks := t' } :=
  I.write (x := a) (e := a) mu (.inl rfl) (fun b q hb z => (hs.2 b hb).trans z) he new
theorem dk_new {P : Program} {w : World} {H' : Hp} {h' : Heap} {kvs : List (Key × V)} {vs : List (Key × Value)} (z : kvs.length ≤ sizeLine) (hd : (a == sysModules) = false) (rel : KV kvs vs) (dd : h'.DictOf (mixKind P w) a vs) :
    ObjOk P w H' h' a (.dK kvs) := ⟨z, hd, vs, rel, dd⟩
/-- d[y] = v -/
theorem d_setItem {H' : Hp} {Q : Unit → Shared → Prop} (hu : A.units + 1 < cLine) (I : Inv X pins σ H s) (g : DPut H a y v H') (ry : RelV y u) (rv : RelV v r) (h : ∀ s', Inv X pins σ H' s' → Q () s') :
    wpAny (model X.prog X.w) A (setItem (.ref a) u r) Q E s := by
  rcases g with ⟨kvs, k, e, ey, l, eH⟩ | ⟨kvs, k, b, e, ey, eb, l, eH⟩
  · subst ey eH
    obtain ⟨z, hd, vs, rel, dd⟩ := dk_of I.hok e
    have hz : vs.length ≤ sizeLine := by rw [← rel.length]; exact z
    have hl : (putK kvs k v).length ≤ sizeLine := by have := length_putK kvs k v; omega
    refine wpAny_setItem_pairs (hsz := hz) (kV_is ry) dd fun h' dd' hs => h _ ?_
    have he : ∃ q, h'.get? a = some q := let ⟨q, _, _, hq, _⟩ := dd'; ⟨q, hq⟩
    exact d_write I (by rw [e]; exact True.intro) hs he (dk_new hl hd (rel.put k rv) dd')
  · subst ey eH
    cases (show u = Value.ref b from ry)
    obtain ⟨z, hd, xs, rel, dd⟩ := dt_of I.hok e
    have hz : xs.length ≤ sizeLine := by rw [← Paired.length rel]; exact z
    have hl : (putK kvs k v).length ≤ sizeLine := by have := length_putK kvs k v; omega
    refine wpAny_setItem_heap (hsz := hz) (tupleKind_room_in1 hu) (key_of I.hok eb) dd fun h' dd' hs => h _ ?_
    obtain ⟨q, es, ep, hq, h2, h3, h4, _, h5⟩ := dd'
    refine d_write I (by rw [e]; exact True.intro) hs ⟨q, hq⟩ ⟨hl, hd, _, (rel.put k eb rv).keeps fun c ys ec => ?_, q, es, ep, hq, h2, h3, h4, h5⟩
    rw [upd_ne (ne_of ec e (fun z => nomatch z))]
    exact ec
end

section
variable {X : Cx} {pins : List (Addr × Obj)} {σ : St} {H : Hp} {s : Shared} {a : Addr} {kvs : List (Key × V)} {k : Key} {u : Value} {A : Around} {E : Value → Shared → Prop}
end


/-! ### readings and rules -/
/-- the element of a subscription, not a slice -/
def NoSl (i : Expr) : Prop := ∀ ov iv, subscripted i false ov iv = operate [ov, iv] (getItem ov iv)
theorem subD_of {prog : Program} {w : World} {A : Around} {E : Value → Shared → Prop} {s : Shared} {env : Env} {value slice : Expr} {pos : Pos} {T id : String} {Q : Value → Shared → Prop}
    (hl : typeLookup (.type T) "__getitem__" = pure (some (.builtin id))) (hs : NoSl slice)
    (h : wpAny (model prog w) A (eval value env) (fun o s₁ => wpAny (model prog w) A (eval slice env) (fun i s₂ => s₂.TypeIs o T ∧ wpAny (model prog w) A (getItem o i) Q E s₂) E s₁) E s) :
    wpAny (model prog w) A (eval (.Subscript value slice pos) env) Q E s := by
  refine Subscript_ (wpAny_mono h (fun o s₁ h₁ => wpAny_mono h₁ (fun i s₂ h₂ => ?_) fun _ _ x => x) fun _ _ x => x)
  obtain ⟨hT, h₂⟩ := h₂
  unfold subscriptTail
  refine wpAny_bind ?_
  rw [getitemInPython_of_ne hT.not_modules]
  refine wpAny_bind (wpAny_specialOf hT hl ?_)
  have fin : wpAny (model prog w) A (subscripted slice false o i) (fun r s₃ => wpAny (model prog w) A (letTemporaryGo value o r >>= fun _ => pure r) Q E s₃) E s₂ := by
    rw [hs o i]
    exact wpAny_operating (wpAny_mono h₂ (fun r s₃ h₃ => wpAny_bind (wpAny_letTemporaryGo (wpAny_pure h₃))) fun _ _ x => x)
  first
    | exact wpAny_pure (wpAny_bind fin)
    | exact wpAny_bind (wpAny_pure (wpAny_bind fin))
    | exact wpAny_bind fin

theorem dict_typeIs {X : Cx} {pins : List (Addr × Obj)} {σ : St} {H : Hp} {s : Shared} {a : Addr} {y : V} {o : Option V} (I : Inv X pins σ H s) (g : DGet H a y o) : s.TypeIs (.ref a) "dict" := by
  rcases g with ⟨kvs, k, e, _, _⟩ | ⟨kvs, k, b, e, _, _, _⟩
  · obtain ⟨_, _, vs, _, dd⟩ := dk_rd I.hok e
    exact dd.typeIs
  · obtain ⟨_, _, xs, _, dd⟩ := dt_rd I.hok e
    exact dd.typeIs
/-- d[y] -/
def tDGet (td ty : TE) : TE := fun σ H Q => td σ H fun x H1 => ty σ H1 fun y H2 => ∃ a v, x = .ref a ∧ DGet H2 a y (some v) ∧ Q v H2
/-- y in d, y not in d -/
def tDIn (ty td : TE) : TE := fun σ H Q => ty σ H fun y H1 => td σ H1 fun x H2 => ∃ a o, x = .ref a ∧ DGet H2 a y o ∧ Q (.bl o.isSome) H2
/-- d[y] = v -/
def sDPut (td ty tv : TE) : TS := fun D σ H => tv σ H fun v H1 => td σ H1 fun x H2 => ty σ H2 fun y H3 => ∃ a H4, x = .ref a ∧ DPut H3 a y v H4 ∧ D.nx σ H4
section
variable {X : Cx} {o i e value : Expr} {pos pos' tpos : Pos} {td ty tv : TE}
theorem pe_dget (hu : X.A.units + 1 < cLine) (ho : PE X o td) (hi : PE X i ty) (hs : NoSl i) : PE X (.Subscript o i pos) (tDGet td ty) := by
  intro pins s σ H Q I h
  refine subD_of PySem.F.slot_dict_getitem.lookup hs (thn (ho pins s σ H _ I h) fun u s1 ⟨x, H1, I1, rx, q1⟩ => thn (hi pins s1 σ H1 _ I1 q1) fun iv s2 ⟨y, H2, I2, ry, a, v, ex, g, q2⟩ => ?_)
  subst ex
  obtain rfl : u = Value.ref a := rx
  exact ⟨dict_typeIs I2 g, d_getItem hu I2 g ry fun w' s3 I3 rw' => ⟨v, H2, I3, rw', q2⟩⟩
theorem pc_din (hu : X.A.units + 1 < cLine) (hi : PE X i ty) (ho : PE X o td) : PC X .In i o (tDIn ty td) := by
  intro pins s σ H Q I h
  refine thn (hi pins s σ H _ I h) fun iv s1 ⟨y, H1, I1, ry, q1⟩ => thn (ho pins s1 σ H1 _ I1 q1) fun u s2 ⟨x, H2, I2, rx, a, ov, ex, g, q2⟩ => ?_
  subst ex
  obtain rfl : u = Value.ref a := rx
  exact d_in hu I2 g ry fun s3 I3 => ⟨.bl ov.isSome, H2, I3, rfl, q2⟩
theorem ps_dput (hu : X.A.units + 1 < cLine) (ho : PE X o td) (hi : PE X i ty) (hv : PE X value tv) (hs : swapsWith value (some (.Subscript o i pos')) pos.line X.env = pure false) :
    PS X (.Assign [.Subscript o i pos'] value pos) (sDPut td ty tv) := by
  intro pins s σ H D I h
  refine wpAny_Assign_Subscript (thn (hv pins s σ H _ I h) fun r s1 ⟨v, H1, I1, rv, q1⟩ => thn (ho pins s1 σ H1 _ I1 q1) fun u s2 ⟨x, H2, I2, rx, q2⟩ => thn (hi pins s2 σ H2 _ I2 q2) fun iv s3 ⟨y, H3, I3, ry, a, H4, ex, g, q3⟩ => ?_) hs
  subst ex
  obtain rfl : u = Value.ref a := rx
  exact d_setItem hu I3 g ry rv fun s4 I4 => ⟨σ, H4, I4, q3⟩
end


/-! ### displays -/
theorem dk_empty {P : Program} {w : World} {H : Hp} (h : Heap) (hb : sysModules < h.objs.size) : ObjOk P w H (h.push { cls := .type "dict", data := .dict #[] }) h.objs.size (.dK []) :=
  ⟨Nat.zero_le _, beq_eq_false_iff_ne.mpr (Ne.symm (Nat.ne_of_lt hb)), [], .nil, Heap.DictOf.new h⟩
theorem dt_empty {P : Program} {w : World} {H : Hp} (h : Heap) (hb : sysModules < h.objs.size) : ObjOk P w H (h.push { cls := .type "dict", data := .dict #[] }) h.objs.size (.dT []) :=
  ⟨Nat.zero_le _, beq_eq_false_iff_ne.mpr (Ne.symm (Nat.ne_of_lt hb)), [], .nil, _, #[], 0, Heap.get?_push_size _ rfl, ⟨rfl, rfl, rfl⟩, rfl, rfl, List.nodup_nil⟩
/-- {}, to be a dict of the kind that is wanted -/
def tDNewK : TE := fun _ H Q => ∀ p, H p = none → Q (.ref p) (upd H p (.dK []))
def tDNewT : TE := fun _ H Q => ∀ p, H p = none → Q (.ref p) (upd H p (.dT []))
section
variable {X : Cx} {pos : Pos}
theorem pe_dnewK : PE X (.Dict [] [] pos) tDNewK := fun pins s σ H Q I h =>
  wpAny_Dict_empty ⟨.ref s.heap.objs.size, _, I.laid (a := s.heap.objs.size) (o := .dK []) (t' := s.toks) (fun _ _ q => Heap.get?_push_of_some _ q) (Nat.le_refl _) (dk_empty s.heap I.big), rfl, h _ (I.hok.fresh (Nat.le_refl _))⟩
theorem pe_dnewT : PE X (.Dict [] [] pos) tDNewT := fun pins s σ H Q I h =>
  wpAny_Dict_empty ⟨.ref s.heap.objs.size, _, I.laid (a := s.heap.objs.size) (o := .dT []) (t' := s.toks) (fun _ _ q => Heap.get?_push_of_some _ q) (Nat.le_refl _) (dt_empty s.heap I.big), rfl, h _ (I.hok.fresh (Nat.le_refl _))⟩
end

/-! ### methods -/
structure M2 (X : Cx) (o : Expr) (m : Str) (apos : Pos) (e f : Expr) (cpos : Pos) : Prop where
  base : attributeBase o m X.env (eval o X.env) = eval o X.env
  few : ((backTo cpos (starEach [e, f] X.env)).all (fun x => !x.1) && (backToKw cpos (keywordEach [] X.env)).all (fun x => x.1.isSome)
    && decide (([e, f] : List Expr).length + ([] : List Keyword).length + (if ([] : List Keyword).isEmpty then 0 else 1) < 30)) = true
  line : (apos.endLine == cpos.line) = true
  trees : backTo cpos (starEach [e, f] X.env) = [(false, eval e X.env), (false, eval f X.env)]

/-- a is a dict, whatever its keys -/
def IsD (H : Hp) (a : Addr) : Prop := (∃ kvs, Rd H a (.dK kvs)) ∨ ∃ kvs, Rd H a (.dT kvs)
theorem isD_at {X : Cx} {pins : List (Addr × Obj)} {σ : St} {H : Hp} {s : Shared} {a : Addr} (I : Inv X pins σ H s) (d : IsD H a) :
    s.TypeIs (.ref a) "dict" ∧ (∀ b, Value.ref a = .ref b → ∃ ob, s.heap.get? b = some ob ∧ ob.dict = none) ∧ (a == sysModules) = false := by
  rcases d with ⟨kvs, e⟩ | ⟨kvs, e⟩
  · obtain ⟨_, hd, vs, _, dd⟩ := dk_rd I.hok e
    refine ⟨dd.typeIs, fun b q => ?_, hd⟩
    cases q
    obtain ⟨ob, _, _, h1, h2, _⟩ := dd
    exact ⟨ob, h1, h2.2.1⟩
  · obtain ⟨_, hd, xs, _, dd⟩ := dt_rd I.hok e
    refine ⟨dd.typeIs, fun b q => ?_, hd⟩
    cases q
    obtain ⟨ob, _, _, h1, h2, _⟩ := dd
    exact ⟨ob, h1, h2.2.1⟩

section
variable {X : Cx} {pins : List (Addr × Obj)} {σ : St} {H : Hp} {s : Shared} {a : Addr} {y d : V} {u r : Value} {o : Option V} {A : Around} {E : Value → Shared → Prop}
/-- d.get(y, x) -/
theorem d_get2 {Q : Value → Shared → Prop} (hu : A.units + 1 < cLine) (I : Inv X pins σ H s) (g : DGet H a y o) (ry : RelV y u) (rd : RelV d r) (h : ∀ w' s', Inv X pins σ H s' → RelV (o.getD d) w' → Q w' s') :
    wpAny (model X.prog X.w) A (call (.builtin "dict.get") [.ref a, u, r]) Q E s := by
  rcases g with ⟨kvs, k, e, ey, l⟩ | ⟨kvs, k, b, e, ey, eb, l⟩
  · subst ey
    obtain ⟨z, hd, vs, rel, dd⟩ := dk_rd I.hok e
    refine call_meetsIn PySem.F.slot_dict_get dd.typeIs PySem.F.entry_dict_get (PySem.F.args_dict_get_3 _ _ _) (meets_dict_get_default (mixKind X.prog X.w) a (kV_is ry) hd r) ⟨_, dd.mapOf, h _ _ (I.tok _) ?_⟩
    rw [l]
    exact (rel.val k).getD rd
  · subst ey
    cases (show u = Value.ref b from ry)
    obtain ⟨z, hd, xs, rel, dd⟩ := dt_rd I.hok e
    refine call_meetsIn PySem.F.slot_dict_get dd.typeIs PySem.F.entry_dict_get (PySem.F.args_dict_get_3 _ _ _) (meetsH_dict_get_default (tupleKind (mixKind X.prog X.w)) a b hd r) ⟨tupleKind_room_in1 hu, k, xs, key_of I.hok eb, dd, h _ _ (I.tok _) ?_⟩
    rw [l]
    exact (rel.val k).getD rd
end

def tDGet2 (td ty tx : TE) : TE := fun σ H Q => td σ H fun x H1 => ∃ a, x = .ref a ∧ IsD H1 a ∧ ty σ H1 fun y H2 => tx σ H2 fun z H3 => ∃ o, DGet H3 a y o ∧ Q (o.getD z) H3
section
variable {X : Cx} {o e f : Expr} {apos cpos : Pos} {td ty tx : TE}
theorem pe_dget2 (hu : X.A.units + 1 < cLine) (ho : PE X o td) (he : PE X e ty) (hf : PE X f tx) (m : M2 X o "get" apos e f cpos) : PE X (.Call (.Attribute o "get" apos) [e, f] [] cpos) (tDGet2 td ty tx) := by
  intro pins s σ H Q I h
  refine wpAny_Call_method m.base m.few m.line PySem.F.plainAttrs_dict PySem.F.slot_dict_get PySem.F.type_dict_get (thn (ho pins s σ H _ I h) fun u s1 ⟨x, H1, I1, rx, a, ex, d, q1⟩ => ?_)
  subst ex
  obtain rfl : u = Value.ref a := rx
  obtain ⟨t1, t2, _⟩ := isD_at I1 d
  refine ⟨t1, t2, ?_⟩
  rw [m.trees]
  refine Calls.callWith_builtin rfl (Calls.evalArgs_plain (Calls.spliced_cons (thn (he pins s1 σ H1 _ I1 q1) fun iv s2 ⟨y, H2, I2, ry, q2⟩ =>
    Calls.spliced_cons (thn (hf pins s2 σ H2 _ I2 q2) fun fv s3 ⟨z, H3, I3, rz, ov, g, q3⟩ => Calls.spliced_nil ?_))))
  exact d_get2 hu I3 g ry rz fun w' s4 I4 rw' => ⟨_, H3, I4, rw', q3⟩
end

/-! ### dict(d): a copy -/
section
variable {X : Cx} {pins : List (Addr × Obj)} {σ : St} {H : Hp} {s : Shared} {a : Addr} {kvs : List (Key × V)} {A : Around} {E : Value → Shared → Prop}
theorem d_copyOf {Q : Value → Shared → Prop} (I : Inv X pins σ H s) (e : Rd H a (.dK kvs)) (h : ∀ p s', H p = none → Inv X pins σ (upd H p (.dK kvs)) s' → Q (.ref p) s') : wpAny (model X.prog X.w) A (call (.type "dict") [.ref a]) Q E s := by
  obtain ⟨z, hd, vs, rel, dd⟩ := dk_rd I.hok e
  refine kt_call_dict hd dd (by rw [← rel.length]; exact z) fun h' dd' hs => ?_
  refine h _ _ (I.hok.fresh (Nat.le_refl _)) (I.laid (a := s.heap.objs.size) (o := .dK kvs) (t' := s.toks) (fun b q hq => ?_) (Nat.le_refl _) (dk_new z (beq_eq_false_iff_ne.mpr (Ne.symm (Nat.ne_of_lt I.big))) rel dd'))
  exact (hs.2 b (Nat.ne_of_lt (Heap.lt_size hq))).trans (Heap.get?_push_of_some _ hq)
end


section
variable {X : Cx} {pins : List (Addr × Obj)} {σ : St} {H : Hp} {s : Shared} {a : Addr} {y : V} {u : Value} {A : Around} {E : Value → Shared → Prop}
end
end L2
/-! ### my own rules over the layer -/
namespace L2
open PySem PySem.Spec PyProof.Rows
section
variable {X : Cx} {pos : Pos} {a b c d : Expr} {ta tb tc td : TE}
/-- isinstance(x, T), T a built-in type -/
theorem call_isi : CallR X (.builtin "isinstance") (fun xs H Q => ∃ x n t b, xs = [x, .ty n] ∧ TyOf X.K H x t ∧ PySem.W.kitOne X.K t (.type n) = some b ∧ Q (.bl b) H) := by
  intro pins s σ H xs us Q I r h
  obtain ⟨x, n, t, b, rfl, ty, e, q⟩ := h
  obtain ⟨u, w', rfl, ru, rw'⟩ := vals2 r
  obtain rfl : w' = Value.type n := rw'
  exact isinst_ok I ru ty e fun tk => ⟨.bl b, H, I.tok tk, rfl, q⟩
end
/-! ### what isinstance tells of built-in types -/
section
open PySem.W
variable {K : Frag}
theorem kit_same {t : String} : kitOne K (.type t) (.type t) = some true := by
  unfold kitOne
  rw [if_pos (by simp)]
theorem kit_of {t c : String} {b : Bool} (h1 : (Value.type t == Value.type c) = false) (h2 : kitMeta c = true) (h3 : (fastBuiltinMro t).map (·.contains (Value.type c)) = some b) : kitOne K (.type t) (.type c) = some b := by
  unfold kitOne
  rw [if_neg (by rw [h1]; decide)]
  unfold kitCls
  show (if kitMeta c = true then subIn K (.type t) (.type c) else none) = some b
  rw [if_pos h2]
  exact h3
theorem kit_int_bool : kitOne K (.type "int") (.type "bool") = some false := kit_of (by decide +kernel) (by decide +kernel) (by decide +kernel)
theorem kit_bool_int : kitOne K (.type "bool") (.type "int") = some true := kit_of (by decide +kernel) (by decide +kernel) (by decide +kernel)
end
/-! ### tests -/
theorem iteD {c A B : Prop} [Decidable c] (h1 : c → A) (h2 : ¬ c → B) : if decide c = true then A else B := by
  by_cases h : c
  · rw [if_pos (decide_eq_true h)]; exact h1 h
  · rw [if_neg (by rw [decide_eq_false h]; decide)]; exact h2 h
theorem iteDn {c A B : Prop} [Decidable c] (h1 : ¬ c → A) (h2 : c → B) : if (!decide c) = true then A else B := by
  by_cases h : c
  · rw [if_neg (by rw [decide_eq_true h]; decide)]; exact h2 h
  · rw [if_pos (by rw [decide_eq_false h]; rfl)]; exact h1 h
theorem iteE {A B : Prop} {i j : Int} (h1 : i = j → A) (h2 : i ≠ j → B) : if decide (V.int i = V.int j) = true then A else B := iteD (fun h => h1 (V.int.inj h)) fun h => h2 fun e => h (congrArg V.int e)
theorem iteNE {A B : Prop} {i j : Int} (h1 : i ≠ j → A) (h2 : i = j → B) : if (!decide (V.int i = V.int j)) = true then A else B := iteDn (fun h => h1 fun e => h (congrArg V.int e)) fun h => h2 (V.int.inj h)
/-! ### heaps -/
theorem Same.put {H H1 : Hp} {l : Addr} {o : HO} (s : Same H H1) (n : H l = none) : Same H (upd H1 l o) := fun b u e => by
  rw [upd_ne (ne_of_none e n)]; exact s b u e
theorem Same.new {H : Hp} {l : Addr} {o : HO} (n : H l = none) : Same H (upd H l o) := (Same.refl H).put n
end L2
/-! ### a list comprehension of one clause -/
namespace L2
open PySem PySem.Spec PyProof.Rows
/-- the loop of a comprehension, a turn at a time, whatever its target is -/
theorem comp_loop {prog : Program} {w : World} {A : Around} {R : Result → Shared → Prop} {s : Shared} {elt target iter : Expr} {ifs : List Expr} {scope : Scope} {pos : Pos} {it acc : Value} {env : Env} (I : Nat → Shared → Prop)
    (turn : ∀ n s, I n s → wpAny (model prog w) A (pyNext it) (fun r s₁ => match r with
      | none => R (.ok .next) s₁
      | some v => wpAny (model prog w) A (letOwnedTupleGo target it v) (fun _ s₁' => wpAny (model prog w) A (assign target env v) (fun _ s₂ =>
          wpAny (model prog w) A (forIn ifs true fun c r => if r = true then do let ok ← isTrue c env (eval c env); pure (ForInStep.yield ok) else pure (ForInStep.yield r)) (fun ok s₃ =>
            if ok = true then wpAny (model prog w) A (eval elt env) (fun x s₄ =>
              wpAny (model prog w) A (call (.builtin "list.append") [acc, x]) (fun _ s₅ => ∃ m, m < n ∧ I m s₅) (notedBy (model prog w) A env fun e s' => R (.error e) s') s₄) (notedBy (model prog w) A env fun e s' => R (.error e) s') s₃
            else ∃ m, m < n ∧ I m s₃) (notedBy (model prog w) A env fun e s' => R (.error e) s') s₂) (notedBy (model prog w) A env fun e s' => R (.error e) s') s₁') (notedBy (model prog w) A env fun e s' => R (.error e) s') s₁) (notedBy (model prog w) A env fun e s' => R (.error e) s') s)
    (n : Nat) (h : I n s) :
    codeAny (model prog w) A (.compLoop (.ListComp elt [⟨target, iter, ifs, 0⟩] scope pos) 0 it acc env) R s := by
  refine codeAny_loop rfl I (fun n s hI => ?_) n h
  show wpAny _ A ((compTurn (.ListComp elt [⟨target, iter, ifs, 0⟩] scope pos) 0 it acc env).onRaise (fun x => do noteFrame x env; theTreesLotGoes x)) _ _ s
  refine wpAny_noted ?_
  rw [compTurn_list]
  refine wpAny_bind (wpAny_standAt (wpAny_bind (wpAny_mono (turn n s hI) (fun r s₁ h₁ => ?_) fun _ _ h' => h')))
  cases r with
  | none => exact wpAny_pure h₁
  | some v =>
    refine wpAny_bind (wpAny_mono h₁ (fun _ s₁' h₁' => wpAny_bind (wpAny_mono h₁' (fun _ s₂ h₂ => wpAny_bind (wpAny_mono h₂ (fun ok s₃ h₃ => ?_) fun _ _ h' => h')) fun _ _ h' => h')) fun _ _ h' => h')
    cases ok with
    | false => exact wpAny_pure ⟨rfl, h₃⟩
    | true =>
      exact wpAny_bind (wpAny_bind (wpAny_mono h₃ (fun x s₄ h₄ => wpAny_bind (wpAny_mono h₄ (fun _ s₅ h₅ => wpAny_pure (wpAny_pure ⟨rfl, h₅⟩)) fun _ _ h' => h')) fun _ _ h' => h'))
/-- the cells that a comprehension sees -/
def clOf (env : Env) : List (Str × NameKind) → List (Str × Addr) → List (Str × Addr)
  | [], cs => cs
  | (n, k) :: r, cs => clOf env r (if k = .free then (n, (env.cells.lookup n).getD 0) :: cs else cs)
theorem clOf_run {env : Env} : ∀ (ns : List (Str × NameKind)) (cs : List (Str × Addr)), (∀ y ∈ ns, y.2 = .free → ∃ c, env.cells.lookup y.1 = some c) →
    (forIn ns cs fun (x : Str × NameKind) (r : List (Str × Addr)) => (if (x.2 == .free) = true then do let c ← cellOf env x.1; pure (ForInStep.yield ((x.1, c) :: r)) else pure (ForInStep.yield r) : Sem (ForInStep (List (Str × Addr))))) = (pure (clOf env ns cs) : Sem _)
  | [], cs, _ => rfl
  | (n, k) :: r, cs, h => by
    have hr := fun y hy => h y (List.mem_cons_of_mem _ hy)
    by_cases hk : k = .free
    · obtain ⟨c, hc⟩ := h (n, k) List.mem_cons_self hk
      subst hk
      rw [List.forIn_cons]
      have e : cellOf env n = pure c := by unfold cellOf; rw [hc]
      simp only [beq_self_eq_true, if_true, e, pure_bind]
      rw [clOf_run r _ hr]
      show _ = pure (clOf env r (if NameKind.free = NameKind.free then (n, (env.cells.lookup n).getD 0) :: cs else cs))
      rw [if_pos rfl, show env.cells.lookup n = some c from hc]
      rfl
    · have hb : (k == NameKind.free) = false := by simpa using hk
      rw [List.forIn_cons]
      simp only [hb, Bool.false_eq_true, if_false, pure_bind]
      rw [clOf_run r _ hr]
      show _ = pure (clOf env r (if k = NameKind.free then (n, (env.cells.lookup n).getD 0) :: cs else cs))
      rw [if_neg hk]
theorem closure_is {env : Env} {scope : Scope} (h : ∀ y ∈ scope.names, y.2 = .free → ∃ c, env.cells.lookup y.1 = some c) : closureFor scope env = pure (clOf env scope.names []) := by
  unfold closureFor
  have e := clOf_run scope.names [] h
  simp only [bind_pure] at e ⊢
  exact e
theorem clOf_lookup {env : Env} {x : Str} {c : Addr} : ∀ (ns : List (Str × NameKind)) (cs : List (Str × Addr)), (∀ y ∈ ns, y.2 = .free → ∃ c, env.cells.lookup y.1 = some c) → (∀ x c, cs.lookup x = some c → env.cells.lookup x = some c) →
    (clOf env ns cs).lookup x = some c → env.cells.lookup x = some c
  | [], cs, _, hc, e => hc x c e
  | (n, k) :: r, cs, h, hc, e => by
    unfold clOf at e
    refine clOf_lookup r _ (fun y hy => h y (List.mem_cons_of_mem _ hy)) (fun x' c' e' => ?_) e
    by_cases hk : k = .free
    · rw [if_pos hk] at e'
      obtain ⟨c0, h0⟩ := h (n, k) List.mem_cons_self hk
      rw [h0] at e'
      rw [List.lookup_cons] at e'
      by_cases q : x' == n
      · rw [q] at e'
        cases e'
        rw [beq_iff_eq.mp q]
        exact h0
      · have q' : (x' == n) = false := by simpa using q
        rw [q'] at e'
        exact hc x' c' e'
    · rw [if_neg hk] at e'
      exact hc x' c' e'
theorem clOf_has0 {env : Env} {x : Str} : ∀ (ns : List (Str × NameKind)) (cs : List (Str × Addr)), (∃ c, cs.lookup x = some c) → ∃ c, (clOf env ns cs).lookup x = some c
  | [], cs, h => h
  | (n, k) :: r, cs, h => by
    unfold clOf
    refine clOf_has0 r _ ?_
    by_cases hk : k = .free
    · rw [if_pos hk, List.lookup_cons]
      by_cases q : x == n
      · rw [q]; exact ⟨_, rfl⟩
      · have q' : (x == n) = false := by simpa using q
        rw [q']; exact h
    · rw [if_neg hk]; exact h
theorem clOf_has {env : Env} {x : Str} : ∀ (ns : List (Str × NameKind)) (cs : List (Str × Addr)), (x, NameKind.free) ∈ ns → ∃ c, (clOf env ns cs).lookup x = some c
  | (n, k) :: r, cs, h => by
    unfold clOf
    rcases List.mem_cons.mp h with e | e
    · cases e
      rw [if_pos rfl]
      exact clOf_has0 r _ ⟨_, by rw [List.lookup_cons, beq_self_eq_true]⟩
    · exact clOf_has r _ e

/-- the context of a comprehension's block -/
def Cx.comp (X : Cx) (scope : Scope) (C : Addr) (N : List Str) (s₀ : Shared) (H₀ : Hp) (ex : List Addr) (E : Value → Shared → Prop) : Cx where
  prog := X.prog
  w := X.w
  K := X.K
  mg := X.mg
  base := X.base
  A := X.A
  N := N
  s₀ := s₀
  H₀ := H₀
  env := compEnvC scope (clOf X.env scope.names []) C X.env
  outer := X.stack
  stack := X.stack
  ex := ex
  fn := fun _ => false
  calm := X.calm
  pn := []
  xe := E
/-- the tests of a clause -/
def PIfs (X : Cx) (ifs : List Expr) (t : TT) : Prop :=
  ∀ (pins : List (Addr × Obj)) (s : Shared) (σ : St) (H : Hp) (Q : Bool → Hp → Prop), Inv X pins σ H s → t σ H Q →
    wpAny (model X.prog X.w) X.A (forIn ifs true fun c r => if r = true then do let ok ← isTrue c X.env (eval c X.env); pure (ForInStep.yield ok) else pure (ForInStep.yield r)) (TP X pins σ Q) X.xe s
def tYes : TT := fun _ H Q => Q true H
theorem pifs_nil {X : Cx} : PIfs X [] tYes := fun _ _ _ H _ I h => wpAny_tests_nil ⟨H, I, h⟩
/-- what the block sees of the frame: its own names unset, then the frame's slots j -/
def capt (own : Nat) (js : List Nat) (σ : St) : St := List.replicate own none ++ js.map fun j => (σ[j]?).getD none
/-- the block from its start on: W the word by the turn and a measure -/
def CompW (J : It) (own : Nat) (js : List Nat) (g : TG) (ti : TT) (te : TE) (σ : St) (H1 : Hp) (acc : Addr) (Q : VK) : Prop :=
  ∃ W : Nat → Nat → Hp → Prop, (∃ m, W 0 m (upd H1 acc (.lst []))) ∧ ∀ i m H2, W i m H2 →
    (J.stop i H2 ∧ Q (.ref acc) H2) ∨ (J.go i H2 ∧ ∀ x H3, J.yld i H2 x H3 → g x (capt own js σ) H3 fun σ4 H4 => ti σ4 H4 fun b H5 =>
      if b = true then te σ4 H5 fun y H6 => rAppend (.ref acc) [y] H6 fun _ H7 => ∃ m', m' < m ∧ W (i + 1) m' H7 else ∃ m', m' < m ∧ W (i + 1) m' H5)
def tComp (own : Nat) (js : List Nat) (wi : TI) (g : TG) (ti : TT) (te : TE) : TE := fun σ H Q => wi σ H fun J H1 => ∀ acc, H1 acc = none → CompW J own js g ti te σ H1 acc Q
end L2
namespace L2
open PySem PySem.Spec PyProof.Rows
theorem thnF {α : Type} {t : Sem α} {Q Q' : α → Shared → Prop} {M : Model} {A : Around} {E : Value → Shared → Prop} {s : Shared} (h : wpAny M A t Q (fun _ _ => False) s) (hQ : ∀ a s, Q a s → Q' a s) : wpAny M A t Q' E s := wpAny_mono h hQ fun _ _ f => f.elim
theorem relabel_kind {scope : Scope} {env : Env} {x : Str} : ∀ {names : List (Str × NameKind)}, ((names.map fun (n, k) => if (k == NameKind.free && env.scope.kind == .function && env.kindOf n == some .cell) then (n, NameKind.cell) else (n, k)).lookup x = some .cell ∨
    (names.map fun (n, k) => if (k == NameKind.free && env.scope.kind == .function && env.kindOf n == some .cell) then (n, NameKind.cell) else (n, k)).lookup x = some .free) → (∀ y ∈ names, y.2 ≠ .cell) → (x, NameKind.free) ∈ names
  | [], h, _ => by simp at h
  | (n, k) :: r, h, hc => by
    have hr : ∀ y ∈ r, y.2 ≠ .cell := fun y hy => hc y (List.mem_cons_of_mem _ hy)
    have h0 : k ≠ .cell := hc (n, k) List.mem_cons_self
    rw [List.map_cons, List.lookup_cons] at h
    by_cases hb : (k == NameKind.free && env.scope.kind == .function && env.kindOf n == some .cell) = true
    · rw [if_pos hb] at h
      dsimp only at h
      by_cases q : x == n
      · have hk : k = .free := by simp only [Bool.and_eq_true, beq_iff_eq] at hb; exact hb.1.1
        rw [beq_iff_eq.mp q, hk]
        exact List.mem_cons_self
      · have q' : (x == n) = false := by simpa using q
        rw [q'] at h
        exact List.mem_cons_of_mem _ (relabel_kind (scope := scope) h hr)
    · rw [if_neg hb] at h
      dsimp only at h
      by_cases q : x == n
      · rw [q] at h
        dsimp only at h
        have hk : k = .free := by
          rcases h with h | h
          · exact absurd (Option.some.inj h) h0
          · exact Option.some.inj h
        rw [beq_iff_eq.mp q, hk]
        exact List.mem_cons_self
      · have q' : (x == n) = false := by simpa using q
        rw [q'] at h
        exact List.mem_cons_of_mem _ (relabel_kind (scope := scope) h hr)
/-- the target stores into the block's own slots alone -/
def OwnG (own : Nat) (g : TG) : Prop := ∀ v σ H (Q : St → Hp → Prop), g v σ H Q → g v σ H fun σ' H' => Q σ' H' ∧ σ'.length = σ.length ∧ ∀ i, own ≤ i → σ'[i]? = σ[i]?
theorem ownG_name {i own : Nat} (h : i < own) : OwnG own (gName i) := fun v σ H Q q => ⟨q, List.length_set .., fun j hj => by rw [List.getElem?_set_ne (by omega)]⟩
theorem capt_length (own : Nat) (js : List Nat) (σ : St) : (capt own js σ).length = own + js.length := by simp [capt]
theorem capt_some {own : Nat} {js : List Nat} {σ : St} {i : Nat} {v : V} (h : (capt own js σ)[i]? = some (some v)) : own ≤ i ∧ ∃ j, js[i - own]? = some j ∧ σ[j]? = some (some v) := by
  unfold capt at h
  by_cases hi : i < own
  · rw [List.getElem?_append_left (by simpa using hi), List.getElem?_replicate, if_pos hi] at h
    cases h
  · rw [List.getElem?_append_right (by simpa using hi), List.length_replicate, List.getElem?_map] at h
    refine ⟨by omega, ?_⟩
    cases e : js[i - own]? with
    | none => rw [e] at h; cases h
    | some j =>
      rw [e] at h
      refine ⟨j, rfl, ?_⟩
      have h' : (σ[j]?).getD none = some v := Option.some.inj h
      cases e2 : σ[j]? with
      | none => rw [e2] at h'; cases h'
      | some o => rw [e2] at h'; exact congrArg some h'
theorem comp_core {X : Cx} {elt tg iter : Expr} {ifs : List Expr} {scope : Scope} {pos ps : Pos} {N : List Str} {own : Nat} {js : List Nat} {wi : TI} {g : TG} {ti : TT} {te : TE} (hc : X.calm = true)
    (hcell : ∀ y ∈ scope.names, y.2 ≠ .cell) (hkind : scope.kind = .function) (hnames : ∀ y ∈ scope.names, y.2 = .local → scope.names.lookup y.1 = some .local)
    (hfree : ∀ y ∈ scope.names, y.2 = .free → X.env.kindOf y.1 = some .cell ∨ X.env.kindOf y.1 = some .free) (hlen : N.length = own + js.length)
    (hcap : ∀ (i j : Nat) (x : Str), js[i]? = some j → N[own + i]? = some x → X.N[j]? = some x ∧ (x, NameKind.free) ∈ scope.names ∧ (X.env.kindOf x = some .cell ∨ X.env.kindOf x = some .free) ∧ ((relabel scope X.env).names.lookup x = some .cell ∨ (relabel scope X.env).names.lookup x = some .free))
    (hi : PI X tg iter wi) (hg : ∀ C s₀ H₀ ex, PG (X.comp scope C N s₀ H₀ ex fun _ _ => False) tg g) (ho : OwnG own g) (ht : ∀ C s₀ H₀ ex, PIfs (X.comp scope C N s₀ H₀ ex fun _ _ => False) ifs ti) (he : ∀ C s₀ H₀ ex, PE (X.comp scope C N s₀ H₀ ex fun _ _ => False) elt te)
    {pins : List (Addr × Obj)} {s : Shared} {σ : St} {H : Hp} {Q : VK} {use : Option (Value → Sem Unit)} {RQ : Value → Shared → Prop} (I : Inv X pins σ H s) (h : tComp own js wi g ti te σ H Q)
    (fin : ∀ (acc C : Addr) (H3 : Hp) (s4 : Shared) (m : Str → Option Value), Inv X pins σ H3 s4 → s4.heap.Ns C m → H3 C = none → C ≠ X.env.locals → C ∉ X.fs → X.s₀.heap.objs.size ≤ C → (∀ x c, X.env.cells.lookup x = some c → c ≠ C) → (∀ p ∈ X.pn ++ pins, p.1 ≠ C) →
      Q (.ref acc) H3 → compPost (model X.prog X.w) X.A X.xe use RQ (.ref acc) C (.ok .next) s4)
    (hs : ∀ x, foldedSetIterable iter X.env x = pure x := by intro _; rfl) :
    wpAny (model X.prog X.w) X.A (comprehension (.ListComp elt [⟨tg, iter, ifs, 0⟩] scope pos) scope X.env ps (newList []) false (eval iter X.env) use) RQ X.xe s := by
  have hcl : ∀ y ∈ scope.names, y.2 = .free → ∃ c, X.env.cells.lookup y.1 = some c := fun y hy hf => I.ok.has y.1 (hfree y hy hf)
  refine wpAny_comprehension_free (use := use) rfl hs (closure_is hcl) hkind hnames (thn (hi pins s σ H _ I h) fun v s1 h1 => thn h1 fun itv s2 h2 => ?_)
  obtain ⟨it, fp, tn, J, H2, e, I2, T, st2, f2, q⟩ := h2
  subst e
  have nf : H2 s2.heap.objs.size = none := I2.hok.fresh (Nat.le_refl _)
  obtain ⟨W, ⟨m0, w0⟩, turn⟩ := q s2.heap.objs.size nf
  refine wpAny_newObj_type (wpAny_newFunctionEnv hcell (by intro y hy; simp at hy) (fun h₁ hns₁ hsb₁ => ?_) hkind)
  dsimp only at hns₁ hsb₁ ⊢
  generalize hP2 : s2.heap.push { cls := .type "list", dict := none, data := .seq ([] : List Value).toArray } = P2 at hns₁ hsb₁ ⊢
  have hC : P2.objs.size = s2.heap.objs.size + 1 := by rw [← hP2, Heap.size_push]
  have hC1 : s2.heap.objs.size < P2.objs.size := by rw [hC]; exact Nat.lt_succ_self _
  have kp : ∀ b o, s2.heap.get? b = some o → h₁.get? b = some o := fun b o e => hsb₁.extBut b o (Nat.ne_of_lt (Nat.lt_trans (Heap.lt_size e) hC1)) (Heap.get?_push_of_some _ (hP2 ▸ Heap.get?_push_of_some _ e))
  have hacc : h₁.get? s2.heap.objs.size = some { cls := .type "list", dict := none, data := .seq ([] : List Value).toArray } := hsb₁.extBut _ _ (Nat.ne_of_lt hC1) (Heap.get?_push_of_some _ (hP2 ▸ Heap.get?_push_size _ rfl))
  have lkc : ∀ x c, (clOf X.env scope.names []).lookup x = some c → X.env.cells.lookup x = some c := fun x c e => clOf_lookup scope.names [] hcl (fun _ _ z => by simp at z) e
  have cne : ∀ x c, (clOf X.env scope.names []).lookup x = some c → c < s2.heap.objs.size ∧ H2 c = none := fun x c e => by
    obtain ⟨v, o, ho, hd⟩ := I2.cell x c (lkc x c e)
    exact ⟨Heap.lt_size ho, I2.freeC x c (lkc x c e)⟩
  have fpl : ∀ b ∈ fp, b < s2.heap.objs.size := fun b hb => by
    obtain ⟨o, e, _⟩ := T.obj 0 _ st2 b hb
    exact Heap.lt_size e
  -- the block's invariant, as it starts
  have hX : (X.comp scope P2.objs.size N s2 H2 fp fun _ _ => False).Ok := {
    mod := I.ok.mod
    kind := hkind
    glob := I.ok.glob
    blt := I.ok.blt
    above := Nat.le_of_lt hC1
    inj := fun x y c a b => I.ok.inj x y c (lkc x c a) (lkc y c b)
    has := fun x hx => clOf_has scope.names [] (relabel_kind (scope := scope) (env := X.env) hx hcell)
    cab := fun x c a _ => by cases (show false = true from a)
    hd := I.ok.hd
    frames := I.ok.frames
    stk := .inl rfl
    exf := fun b hb => ⟨Nat.ne_of_lt (Nat.lt_trans (fpl b hb) hC1), fun x c a => (f2 b hb).2.2.2.2.1 x c (lkc x c a)⟩
    bs := I2.bs
    bsz := Nat.le_trans I.ok.bsz I2.sz
    noex := fun b o e hb => by
      rcases (f2 b hb).2.2.2.1 with z | z
      · exact I.ok.noex b o e z
      · exact absurd (Nat.lt_of_lt_of_le (Nat.lt_of_lt_of_le (Heap.lt_size e) I.ok.bsz) z) (Nat.lt_irrefl _)
    exfs := fun b hb z => by
      rcases List.mem_cons.mp (I2.stkSub b z) with z | z
      · exact (f2 b hb).2.1 z
      · exact (f2 b hb).2.2.1 z
    funs := I2.stack
    frf := I2.stkFree }
  have I3 : ∀ tk, Inv (X.comp scope P2.objs.size N s2 H2 fp fun _ _ => False) [] (capt own js σ) (upd H2 s2.heap.objs.size (.lst [])) { s2 with heap := h₁, toks := tk } := fun tk => {
    ok := hX
    os := rfl
    bare := I2.bare
    base := Un.laid kp (Nat.le_refl _) nf
    loc := ⟨_, hns₁, fun i x v a b c => by
      obtain ⟨hio, j, hj, hv⟩ := capt_some b
      obtain ⟨h3, h4, h5, h6⟩ := hcap (i - own) j x hj (by rw [show own + (i - own) = i by omega]; exact a)
      obtain ⟨m, hn, hl⟩ := I2.loc
      obtain ⟨u, ru, lk⟩ := hl j x v h3 hv (.inr h5)
      refine ⟨u, ru, .inr ⟨h6, ?_⟩⟩
      rcases lk with ⟨z, _⟩ | ⟨_, c0, z1, z2⟩
      · rcases h5 with h5 | h5 <;> (rw [h5] at z; cases z)
      · obtain ⟨c1, hc1⟩ := clOf_has (env := X.env) scope.names [] h4
        have := lkc x c1 hc1
        rw [z1] at this
        cases this
        obtain ⟨o, ho, hd⟩ := z2
        exact ⟨c0, hc1, o, kp _ _ ho, hd⟩⟩
    cell := fun x c a => by
      obtain ⟨v, o, ho, hd⟩ := I2.cell x c (lkc x c a)
      exact ⟨v, o, kp _ _ ho, hd⟩
    free := by
      show upd H2 _ _ P2.objs.size = none
      rw [upd_ne (Nat.ne_of_gt hC1)]
      exact I2.hok.fresh (Nat.le_of_lt hC1)
    freeC := fun x c a => by
      rw [upd_ne (Nat.ne_of_lt (cne x c a).1)]
      exact (cne x c a).2
    pin := fun p hp => absurd (show p ∈ ([] : List (Addr × Obj)) from hp) (by simp)
    hok := I2.hok.laid kp (Nat.le_refl _) ⟨Nat.zero_le _, [], 0, .nil, hacc⟩
    len := by rw [capt_length]; exact hlen.symm }
  have fr0 : ∀ b ∈ fp, upd H2 s2.heap.objs.size (.lst []) b = none := fun b hb => by
    rw [upd_ne (Nat.ne_of_lt (fpl b hb))]
    exact (f2 b hb).1
  have st3 : tn 0 h₁ := T.keep 0 _ _ st2 fun b _ o e => kp b o e
  have stat : ∀ {H' : Hp}, (∀ b ∈ fp, H' b = none) → ∀ b ∈ fp, FpOk (X.comp scope P2.objs.size N s2 H2 fp fun _ _ => False) [] H' b := fun hn b hb =>
    ⟨hn b hb, (hX.exf b hb).1, hX.exfs b hb, .inl hb, fun x c a => (hX.exf b hb).2 x c a, fun p hp => absurd (show p ∈ ([] : List (Addr × Obj)) from hp) (by simp)⟩
  have loop : ∀ s₃ : Shared, s₃ = { s2 with heap := h₁, toks := s2.toks + ([] : List (Str × Value)).length } →
      codeAny (model X.prog X.w) X.A (.compLoop (.ListComp elt [⟨tg, iter, ifs, 0⟩] scope pos) 0 (.ref it) (.ref s2.heap.objs.size) (compEnvC scope (clOf X.env scope.names []) P2.objs.size X.env))
        (compPost (model X.prog X.w) X.A X.xe use RQ (.ref s2.heap.objs.size) P2.objs.size) s₃ := by
    rintro s₃ rfl
    refine comp_loop (fun n s' => ∃ i H', Inv (X.comp scope P2.objs.size N s2 H2 fp fun _ _ => False) [] (capt own js σ) H' s' ∧ tn i s'.heap ∧ (∀ b ∈ fp, H' b = none) ∧ W i n H') ?_ m0 ⟨0, _, I3 _, st3, fr0, w0⟩
    rintro n s3 ⟨i, H3, J3, t3, fr3, w3⟩
    rcases turn i n H3 w3 with ⟨stop, qd⟩ | ⟨go, step⟩
    · refine thnF (T.done (X.comp scope P2.objs.size N s2 H2 fp fun _ _ => False) rfl rfl rfl hc i [] s3 _ H3 _ J3 (stat fr3) t3 stop) fun r s4 ⟨hr, J4⟩ => ?_
      subst hr
      obtain ⟨m, hn, _⟩ := J4.loc
      have B : Un (frs X.stack) fp H2 H3 s2.heap s4.heap := J4.base
      have I5 : Inv X pins σ H3 s4 := I2.call' J4.os B J4.hok J4.bare fun b hb => by
        obtain ⟨a1, a2, a3, a4, a5, a6⟩ := f2 b hb
        exact ⟨a4, a2, a5, a6⟩
      have hp := I2.fpOk (H' := H3) (b := P2.objs.size) (Nat.le_of_lt hC1) J4.free
      obtain ⟨a1, a2, a3, a4, a5, a6⟩ := hp
      exact fin s2.heap.objs.size P2.objs.size H3 s4 m I5 hn a1 a2 a3 (Nat.le_trans I2.sz (Nat.le_of_lt hC1)) a5 a6 qd
    · refine thnF (T.item (X.comp scope P2.objs.size N s2 H2 fp fun _ _ => False) rfl rfl rfl hc i [] s3 _ H3 _ J3 (stat fr3) t3 go) fun r s4 ⟨u, hr, h4⟩ => ?_
      subst hr
      refine thnF h4 fun _ s5 ⟨x, H5, J5, r5, y5, t5, fr5⟩ => ?_
      have J5' := J5.pinned (stat fr5) (T.obj _ _ t5)
      refine thnF (hg _ _ _ _ _ s5 _ H5 x u _ J5' r5 (ho _ _ _ _ (step x H5 y5))) fun _ s6 ⟨σ6, H6, J6, q6, hl6, ho6⟩ => ?_
      have again : ∀ {s7 : Shared} {H7 : Hp}, Inv (X.comp scope P2.objs.size N s2 H2 fp fun _ _ => False) ([] ++ pinsAt fp s5.heap) σ6 H7 s7 → (∃ m', m' < n ∧ W (i + 1) m' H7) →
          ∃ m, m < n ∧ ∃ i H', Inv (X.comp scope P2.objs.size N s2 H2 fp fun _ _ => False) [] (capt own js σ) H' s7 ∧ tn i s7.heap ∧ (∀ b ∈ fp, H' b = none) ∧ W i m H' := fun {s7 H7} J7 z => by
        obtain ⟨m', hm, w7⟩ := z
        refine ⟨m', hm, i + 1, H7, J7.unpinned.weak (by rw [hl6]) (fun k v z => ?_), T.keep _ _ _ t5 fun b hb o e => (J7.pin (b, o) (List.mem_append_right _ (List.mem_append_right _ (mem_pinsAt hb e)))).1, fun b hb => ?_, w7⟩
        · rw [ho6 k (capt_some z).1]
          exact z
        · obtain ⟨o, e, d⟩ := T.obj _ _ t5 b hb
          exact (J7.pin (b, o) (List.mem_append_right _ (List.mem_append_right _ (mem_pinsAt hb e)))).2.1
      refine thnF (ht _ _ _ _ _ s6 σ6 H6 _ J6 q6) fun ok s7 ⟨H7, J7, q7⟩ => ?_
      cases ok with
      | false => exact again J7 q7
      | true =>
        refine thnF (he _ _ _ _ _ s7 σ6 H7 _ J7 q7) fun y s8 ⟨yv, H8, J8, r8, q8⟩ => ?_
        exact thnF (mt_append _ s8 σ6 H8 (.ref s2.heap.objs.size) [yv] (.ref s2.heap.objs.size) [y] _ J8 rfl (.cons r8 .nil) q8) fun _ s9 ⟨_, H9, J9, _, q9⟩ => again J9 q9
  exact codeAny_compStart_list (loop _ rfl) (T.self X.A 0 _ _ _ st3 (loop _ rfl))

/-- [elt for tg in iter if ..] -/
theorem pe_comp {X : Cx} {elt tg iter : Expr} {ifs : List Expr} {scope : Scope} {pos : Pos} {N : List Str} {own : Nat} {js : List Nat} {wi : TI} {g : TG} {ti : TT} {te : TE} (hc : X.calm = true)
    (hcell : ∀ y ∈ scope.names, y.2 ≠ .cell) (hkind : scope.kind = .function) (hnames : ∀ y ∈ scope.names, y.2 = .local → scope.names.lookup y.1 = some .local)
    (hfree : ∀ y ∈ scope.names, y.2 = .free → X.env.kindOf y.1 = some .cell ∨ X.env.kindOf y.1 = some .free) (hlen : N.length = own + js.length)
    (hcap : ∀ (i j : Nat) (x : Str), js[i]? = some j → N[own + i]? = some x → X.N[j]? = some x ∧ (x, NameKind.free) ∈ scope.names ∧ (X.env.kindOf x = some .cell ∨ X.env.kindOf x = some .free) ∧ ((relabel scope X.env).names.lookup x = some .cell ∨ (relabel scope X.env).names.lookup x = some .free))
    (hi : PI X tg iter wi) (hg : ∀ C s₀ H₀ ex, PG (X.comp scope C N s₀ H₀ ex fun _ _ => False) tg g) (ho : OwnG own g) (ht : ∀ C s₀ H₀ ex, PIfs (X.comp scope C N s₀ H₀ ex fun _ _ => False) ifs ti) (he : ∀ C s₀ H₀ ex, PE (X.comp scope C N s₀ H₀ ex fun _ _ => False) elt te)
    (hs : ∀ x, foldedSetIterable iter X.env x = pure x := by intro _; rfl) : PE X (.ListComp elt [⟨tg, iter, ifs, 0⟩] scope pos) (tComp own js wi g ti te) := by
  intro pins s σ H Q I h
  rw [eval_ListComp]
  refine comp_core hc hcell hkind hnames hfree hlen hcap hi hg ho ht he I h (use := none) (fun acc C H3 s4 m I5 hn c1 c2 c3 c4 c5 c6 q => ?_) hs
  refine ⟨m, hn, fun h' sb => ⟨.ref acc, H3, ?_, rfl, q⟩⟩
  exact I5.turned (t' := s4.toks) (it := C) (fun b o hb e => (sb.2 b hb).trans e) c1 c2 (.inr c4) c5 c6
end L2
/-! ### the comprehension's rules with one check over the written text -/
namespace L2
open PySem PySem.Spec PyProof.Rows
def compOk (XN : List Str) (sc scope : Scope) (own : Nat) (js : List Nat) (N : List Str) : Bool :=
  (scope.names.all fun y => decide (y.2 ≠ .cell) && (decide (y.2 ≠ .local) || decide (scope.names.lookup y.1 = some .local)) && (decide (y.2 ≠ .free) || decide (sc.names.lookup y.1 = some .cell) || decide (sc.names.lookup y.1 = some .free))) &&
    decide (scope.kind = .function) && decide (N.length = own + js.length) &&
    (List.range js.length).all fun i => match js[i]?, N[own + i]? with
      | some j, some x => decide (XN[j]? = some x) && decide (scope.names.lookup x = some .free) && (decide (sc.names.lookup x = some .cell) || decide (sc.names.lookup x = some .free))
      | _, _ => false
theorem lookup_relabel_free {env : Env} : ∀ {names : List (Str × NameKind)} {x : Str}, names.lookup x = some .free →
    (names.map fun (n, k) => if (k == NameKind.free && env.scope.kind == .function && env.kindOf n == some .cell) then (n, NameKind.cell) else (n, k)).lookup x = some .cell ∨
    (names.map fun (n, k) => if (k == NameKind.free && env.scope.kind == .function && env.kindOf n == some .cell) then (n, NameKind.cell) else (n, k)).lookup x = some .free
  | [], _, h => by simp at h
  | (n, k) :: r, x, h => by
    have ih := @lookup_relabel_free env r x
    rw [List.map_cons, List.lookup_cons]
    rw [List.lookup_cons] at h
    by_cases hc : (k == NameKind.free && env.scope.kind == .function && env.kindOf n == some .cell) = true
    · rw [if_pos hc]
      dsimp only
      cases hx : x == n with
      | true => exact .inl rfl
      | false =>
        rw [hx] at h
        exact ih h
    · rw [if_neg hc]
      dsimp only
      cases hx : x == n with
      | true =>
        rw [hx] at h
        exact .inr h
      | false =>
        rw [hx] at h
        exact ih h
structure CompOk (XN : List Str) (sc scope : Scope) (own : Nat) (js : List Nat) (N : List Str) : Prop where
  cell : ∀ y ∈ scope.names, y.2 ≠ .cell
  names : ∀ y ∈ scope.names, y.2 = .local → scope.names.lookup y.1 = some .local
  free : ∀ y ∈ scope.names, y.2 = .free → sc.names.lookup y.1 = some .cell ∨ sc.names.lookup y.1 = some .free
  kind : scope.kind = .function
  len : N.length = own + js.length
  cap : ∀ (i j : Nat) (x : Str), js[i]? = some j → N[own + i]? = some x → XN[j]? = some x ∧ scope.names.lookup x = some .free ∧ (sc.names.lookup x = some .cell ∨ sc.names.lookup x = some .free)
theorem compOk_of {XN : List Str} {sc scope : Scope} {own : Nat} {js : List Nat} {N : List Str} (h : compOk XN sc scope own js N = true) : CompOk XN sc scope own js N := by
  unfold compOk at h
  rw [Bool.and_eq_true, Bool.and_eq_true, Bool.and_eq_true] at h
  obtain ⟨⟨⟨h1, h2⟩, h3⟩, h4⟩ := h
  rw [List.all_eq_true] at h1 h4
  refine ⟨fun y hy => ?_, fun y hy e => ?_, fun y hy e => ?_, of_decide_eq_true h2, of_decide_eq_true h3, fun i j x a b => ?_⟩
  · have := h1 y hy
    rw [Bool.and_eq_true, Bool.and_eq_true] at this
    exact of_decide_eq_true this.1.1
  · have := h1 y hy
    rw [Bool.and_eq_true, Bool.and_eq_true, Bool.or_eq_true] at this
    rcases this.1.2 with z | z
    · exact absurd e (of_decide_eq_true z)
    · exact of_decide_eq_true z
  · have := h1 y hy
    rw [Bool.and_eq_true, Bool.and_eq_true, Bool.or_eq_true, Bool.or_eq_true, Bool.or_eq_true] at this
    rcases this.2 with (z | z) | z
    · exact absurd e (of_decide_eq_true z)
    · exact .inl (of_decide_eq_true z)
    · exact .inr (of_decide_eq_true z)
  · have hi : i < js.length := (List.getElem?_eq_some_iff.mp a).1
    have := h4 i (List.mem_range.mpr hi)
    rw [a, b] at this
    dsimp only at this
    rw [Bool.and_eq_true, Bool.and_eq_true, Bool.or_eq_true] at this
    exact ⟨of_decide_eq_true this.1.1, of_decide_eq_true this.1.2, this.2.imp of_decide_eq_true of_decide_eq_true⟩
section
variable {X : Cx} {XN : List Str} {sc scope : Scope} {elt tg iter : Expr} {ifs : List Expr} {pos : Pos} {N : List Str} {own : Nat} {js : List Nat} {wi : TI} {g : TG} {ti : TT} {te : TE}
theorem pe_compB (hc : X.calm = true) (ok : compOk XN sc scope own js N = true) (hsc : X.env.scope = sc) (hXN : X.N = XN) (hi : PI X tg iter wi) (hg : ∀ C s₀ H₀ ex, PG (X.comp scope C N s₀ H₀ ex fun _ _ => False) tg g) (ho : OwnG own g)
    (ht : ∀ C s₀ H₀ ex, PIfs (X.comp scope C N s₀ H₀ ex fun _ _ => False) ifs ti) (he : ∀ C s₀ H₀ ex, PE (X.comp scope C N s₀ H₀ ex fun _ _ => False) elt te)
    (hs : ∀ x, foldedSetIterable iter X.env x = pure x := by intro _; rfl) : PE X (.ListComp elt [⟨tg, iter, ifs, 0⟩] scope pos) (tComp own js wi g ti te) := by
  obtain ⟨h1, h2, h3, h4, h5, h6⟩ := compOk_of ok
  subst hsc hXN
  refine pe_comp hc h1 h4 h2 h3 h5 (fun i j x a b => ?_) hi hg ho ht he hs
  obtain ⟨z1, z2, z3⟩ := h6 i j x a b
  exact ⟨z1, PySem.mem_of_lookup z2, z3, lookup_relabel_free z2⟩
end
/-- over range(lo, lo + n): the word of the turn and of the list so far -/
theorem comp_range {lo : Int} {n : Nat} {own : Nat} {js : List Nat} {g : TG} {ti : TT} {te : TE} {σ : St} {H1 : Hp} {acc : Addr} {Q : VK} (Pv : Nat → Hp → Prop) (h0 : Pv 0 (upd H1 acc (.lst [])))
    (hs : ∀ i H2, i < n → Pv i H2 → g (.int (lo + i)) (capt own js σ) H2 fun σ4 H4 => ti σ4 H4 fun b H5 => if b = true then te σ4 H5 fun y H6 => rAppend (.ref acc) [y] H6 fun _ H7 => Pv (i + 1) H7 else Pv (i + 1) H5) (hd : ∀ H2, Pv n H2 → Q (.ref acc) H2)
    (mono : ∀ σ H (R R' : St → Hp → Prop) x, (∀ σ' H', R σ' H' → R' σ' H') → g x σ H R → g x σ H R') (monoT : ∀ σ H (R R' : Bool → Hp → Prop), (∀ b H', R b H' → R' b H') → ti σ H R → ti σ H R') (monoE : ∀ σ H (R R' : VK), (∀ v H', R v H' → R' v H') → te σ H R → te σ H R') :
    CompW (Itr lo n) own js g ti te σ H1 acc Q := by
  refine ⟨fun i m H2 => m = n - i ∧ i ≤ n ∧ Pv i H2, ⟨n, by simp, Nat.zero_le _, h0⟩, ?_⟩
  rintro i m H2 ⟨rfl, hi, p⟩
  by_cases hlt : i < n
  · refine .inr ⟨hlt, fun x H3 y => ?_⟩
    obtain ⟨e1, e2⟩ := y
    subst e1 e2
    refine mono _ _ _ _ _ (fun σ4 H4 q => monoT _ _ _ _ (fun b H5 q => ?_) q) (hs i _ hlt p)
    cases b with
    | true =>
      refine monoE _ _ _ _ (fun v H6 q => ?_) q
      obtain ⟨l, xs, y, a1, a2, a3, a4, a5⟩ := q
      exact ⟨l, xs, y, a1, a2, a3, a4, n - (i + 1), by omega, rfl, hlt, a5⟩
    | false => exact ⟨n - (i + 1), by omega, rfl, hlt, q⟩
  · have e : i = n := by omega
    subst e
    exact .inl ⟨Nat.le_refl _, hd H2 p⟩
/-- over a list that stays -/
theorem comp_list {K : PySem.W.Frag} {a : Addr} {xs : List V} {own : Nat} {js : List Nat} {g : TG} {ti : TT} {te : TE} {σ : St} {H1 : Hp} {acc : Addr} {Q : VK} (Pv : Nat → Hp → Prop) (h0 : Pv 0 (upd H1 acc (.lst []))) (hl : ∀ i H2, i ≤ xs.length → Pv i H2 → SqL K H2 a xs)
    (hs : ∀ i x H2, xs[i]? = some x → Pv i H2 → g x (capt own js σ) H2 fun σ4 H4 => ti σ4 H4 fun b H5 => if b = true then te σ4 H5 fun y H6 => rAppend (.ref acc) [y] H6 fun _ H7 => Pv (i + 1) H7 else Pv (i + 1) H5) (hd : ∀ H2, Pv xs.length H2 → Q (.ref acc) H2)
    (mono : ∀ σ H (R R' : St → Hp → Prop) x, (∀ σ' H', R σ' H' → R' σ' H') → g x σ H R → g x σ H R') (monoT : ∀ σ H (R R' : Bool → Hp → Prop), (∀ b H', R b H' → R' b H') → ti σ H R → ti σ H R') (monoE : ∀ σ H (R R' : VK), (∀ v H', R v H' → R' v H') → te σ H R → te σ H R') :
    CompW (Itl K a) own js g ti te σ H1 acc Q := by
  refine ⟨fun i m H2 => m = xs.length - i ∧ i ≤ xs.length ∧ Pv i H2, ⟨xs.length, by simp, Nat.zero_le _, h0⟩, ?_⟩
  rintro i m H2 ⟨rfl, hi, p⟩
  have q := hl i H2 hi p
  by_cases hlt : i < xs.length
  · refine .inr ⟨⟨xs, xs[i], q, by simp [hlt]⟩, fun x H3 y => ?_⟩
    obtain ⟨e1, y⟩ := y
    subst e1
    refine mono _ _ _ _ _ (fun σ4 H4 q => monoT _ _ _ _ (fun b H5 q => ?_) q) (hs i x _ (y xs q) p)
    cases b with
    | true =>
      refine monoE _ _ _ _ (fun v H6 q => ?_) q
      obtain ⟨l, xs, y, a1, a2, a3, a4, a5⟩ := q
      exact ⟨l, xs, y, a1, a2, a3, a4, _, by omega, rfl, hlt, a5⟩
    | false => exact ⟨_, by omega, rfl, hlt, q⟩
  · have e : i = xs.length := by omega
    subst e
    exact .inl ⟨⟨xs, q, Nat.le_refl _⟩, hd H2 p⟩
theorem mono_name {i : Nat} : ∀ (σ : St) (H : Hp) (R R' : St → Hp → Prop) (x : V), (∀ σ' H', R σ' H' → R' σ' H') → gName i x σ H R → gName i x σ H R' := fun _ _ _ _ _ k h => k _ _ h
theorem yesN {A B : St → Hp → Prop} {i : Nat} {x : V} {σ : St} {H : Hp} (h : A (σ.set i (some x)) H) : gName i x σ H fun σ4 H4 => tYes σ4 H4 fun b H5 => if b = true then A σ4 H5 else B σ4 H5 := by
  show if true = true then A (σ.set i (some x)) H else B (σ.set i (some x)) H
  rw [if_pos rfl]
  exact h
theorem mono_yes : ∀ (σ : St) (H : Hp) (R R' : Bool → Hp → Prop), (∀ b H', R b H' → R' b H') → tYes σ H R → tYes σ H R' := fun _ _ _ _ k h => k _ _ h
end L2
/-! ### rules that name the written part, for a comprehension's block -/
namespace L2
open PySem PySem.Spec PyProof.Rows
section
variable {X : Cx} {K : PySem.W.Frag}
end
end L2
/-! ### ==, != of ints, lists, tuples at any depth; sum; // by larger numbers -/
namespace L2
open PySem PySem.Spec PyProof.Rows
/-- what == tells, d deep -/
inductive EqR (K : PySem.W.Frag) (H : Hp) : Nat → V → V → Bool → Prop where
  | int (d : Nat) (i j : Int) : EqR K H d (.int i) (.int j) (decide (i = j))
  | lists {d : Nat} {a b : Addr} {xs ys : List V} (es : Nat → Bool) (h1 : SqL K H a xs) (h2 : SqL K H b ys) (hl : xs.length = ys.length) (he : ∀ (j : Nat) x y, xs[j]? = some x → ys[j]? = some y → EqR K H d x y (es j)) : EqR K H (d + 1) (.ref a) (.ref b) ((List.range xs.length).all es)
  | lens {d : Nat} {a b : Addr} {xs ys : List V} (h1 : SqL K H a xs) (h2 : SqL K H b ys) (hl : xs.length ≠ ys.length) : EqR K H (d + 1) (.ref a) (.ref b) false
  | tuples {d : Nat} {a b : Addr} {xs ys : List V} (es : Nat → Bool) (h1 : SqT K H a xs) (h2 : SqT K H b ys) (he : ∀ (j : Nat) x y, xs[j]? = some x → ys[j]? = some y → EqR K H d x y (es j)) : EqR K H (d + 1) (.ref a) (.ref b) ((List.range (min xs.length ys.length)).all es && xs.length == ys.length)
section
variable {X : Cx} {pins : List (Addr × Obj)} {σ : St} {H : Hp} {s : Shared}
theorem EqR.same (I : Inv X pins σ H s) {d : Nat} {x y : V} {e : Bool} (h : EqR X.K H d x y e) : x = y → e = true := by
  induction h with
  | int d i j => intro q; cases q; simp
  | lists es h1 h2 hl he ih =>
    intro q
    cases q
    have z := I.list_inj h1 h2
    subst z
    rw [List.all_eq_true]
    intro j hj
    rw [List.mem_range] at hj
    have hx := List.getElem?_eq_getElem hj
    exact ih j _ _ hx hx rfl
  | lens h1 h2 hl =>
    intro q
    cases q
    exact absurd (congrArg List.length (I.list_inj h1 h2)) hl
  | @tuples d a b xs ys es h1 h2 he ih =>
    intro q
    cases q
    have z := I.tuple_inj h1 h2
    subst z
    rw [Bool.and_eq_true]
    refine ⟨?_, by simp⟩
    rw [List.all_eq_true]
    intro j hj
    rw [List.mem_range, Nat.min_self] at hj
    have hx := List.getElem?_eq_getElem hj
    exact ih j _ _ hx hx rfl
theorem units_in1 (A : Around) : A.in1.units = A.units + 1 := rfl
theorem EqR.at_ (I : Inv X pins σ H s) {d : Nat} {x y : V} {e : Bool} (h : EqR X.K H d x y e) : ∀ {A : Around} {u v : Value}, A.units + d < cLine → RelV x u → RelV y v → SeqAt.RcAt A s u v e ∧ SeqAt.RcNeAt A s u v (!e) ∧ SeqAt.EqAt A s u v e := by
  induction h with
  | int d i j =>
    intro A u v hu ru rv
    obtain ⟨t, rfl⟩ := ru
    obtain ⟨t', rfl⟩ := rv
    have e : decide (i = j) = (i == j) := by rw [Bool.beq_eq_decide_eq]
    rw [e]
    exact ⟨SeqAt.RcAt.int_int i t j t', SeqAt.RcNeAt.int_int i t j t', SeqAt.EqAt.int_int i t j t'⟩
  | @lists d a b xs ys es h1 h2 hl he ih =>
    intro A u v hu ru rv
    obtain rfl : u = Value.ref a := ru
    obtain rfl : v = Value.ref b := rv
    obtain ⟨is, r1, p1, z1⟩ := I.list h1
    obtain ⟨js, r2, p2, z2⟩ := I.list h2
    have l1 := r1.length
    have l2 := r2.length
    have ln : xs.length = is.toArray.size := by simpa using l1
    have sz : is.toArray.size = js.toArray.size := by simp only [List.size_toArray]; omega
    have it : ∀ j (q1 : j < is.toArray.size) (q2 : j < js.toArray.size), SeqAt.EqAt A.in1 s is.toArray[j] js.toArray[j] (es j) := fun j q1 q2 => by
      simp only [List.size_toArray] at q1 q2
      have hx : xs[j]? = some xs[j] := List.getElem?_eq_getElem (by omega)
      have hy : ys[j]? = some ys[j] := List.getElem?_eq_getElem (by omega)
      obtain ⟨u1, e1, ru1⟩ := r1.get hx
      obtain ⟨u2, e2, ru2⟩ := r2.get hy
      have g1 : is.toArray[j] = u1 := by
        rw [List.getElem?_eq_getElem q1] at e1
        simpa using Option.some.inj e1
      have g2 : js.toArray[j] = u2 := by
        rw [List.getElem?_eq_getElem q2] at e2
        simpa using Option.some.inj e2
      rw [g1, g2]
      exact (ih j _ _ hx hy (by rw [units_in1]; omega) ru1 ru2).2.2
    rw [ln]
    have R := SeqAt.RcAt.lists (A := A) p1.isList p2.isList sz (by omega) it
    refine ⟨R, SeqAt.RcNeAt.lists p1.isList p2.isList sz (by omega) it, ?_⟩
    by_cases q : a = b
    · subst q
      have := (EqR.lists es h1 h2 hl he).same I rfl
      rw [ln] at this
      rw [this]
      exact SeqAt.EqAt.same _
    · exact SeqAt.EqAt.of_refs q R
  | @lens d a b xs ys h1 h2 hl =>
    intro A u v hu ru rv
    obtain rfl : u = Value.ref a := ru
    obtain rfl : v = Value.ref b := rv
    obtain ⟨is, r1, p1, z1⟩ := I.list h1
    obtain ⟨js, r2, p2, z2⟩ := I.list h2
    have l1 := r1.length
    have l2 := r2.length
    have sz : (is.toArray.size != js.toArray.size) = true := by
      simp only [List.size_toArray, bne_iff_ne, ne_eq]
      omega
    have R := SeqAt.RcAt.lists_lengths (A := A) p1.isList p2.isList sz (by omega)
    refine ⟨R, SeqAt.RcNeAt.lists_lengths p1.isList p2.isList sz (by omega), ?_⟩
    by_cases q : a = b
    · subst q
      exact absurd (congrArg List.length (I.list_inj h1 h2)) hl
    · exact SeqAt.EqAt.of_refs q R
  | @tuples d a b xs ys es h1 h2 he ih =>
    intro A u v hu ru rv
    obtain rfl : u = Value.ref a := ru
    obtain rfl : v = Value.ref b := rv
    obtain ⟨is, r1, p1, z1⟩ := I.tuple h1
    obtain ⟨js, r2, p2, z2⟩ := I.tuple h2
    have l1 := r1.length
    have l2 := r2.length
    have ln : xs.length = is.toArray.size := by simpa using l1
    have ln2 : ys.length = js.toArray.size := by simpa using l2
    have it : ∀ j (q1 : j < is.toArray.size) (q2 : j < js.toArray.size), SeqAt.EqAt A.in1 s is.toArray[j] js.toArray[j] (es j) := fun j q1 q2 => by
      simp only [List.size_toArray] at q1 q2
      have hx : xs[j]? = some xs[j] := List.getElem?_eq_getElem (by omega)
      have hy : ys[j]? = some ys[j] := List.getElem?_eq_getElem (by omega)
      obtain ⟨u1, e1, ru1⟩ := r1.get hx
      obtain ⟨u2, e2, ru2⟩ := r2.get hy
      have g1 : is.toArray[j] = u1 := by
        rw [List.getElem?_eq_getElem q1] at e1
        simpa using Option.some.inj e1
      have g2 : js.toArray[j] = u2 := by
        rw [List.getElem?_eq_getElem q2] at e2
        simpa using Option.some.inj e2
      rw [g1, g2]
      exact (ih j _ _ hx hy (by rw [units_in1]; omega) ru1 ru2).2.2
    rw [ln, ln2]
    have R := SeqAt.RcAt.tuples (A := A) (show s.heap.IsTuple a is.toArray from p1) (show s.heap.IsTuple b js.toArray from p2) (by omega) it
    refine ⟨R, SeqAt.RcNeAt.tuples (show s.heap.IsTuple a is.toArray from p1) (show s.heap.IsTuple b js.toArray from p2) (by omega) it, ?_⟩
    by_cases q : a = b
    · subst q
      have := (EqR.tuples es h1 h2 he).same I rfl
      rw [ln, ln2] at this
      rw [this]
      exact SeqAt.EqAt.same _
    · exact SeqAt.EqAt.of_refs q R
/-- // by a number of at most 512 bits -/
def CDB (_ j : Int) : Prop := j ≠ 0 ∧ j.natAbs < 2 ^ 512
theorem op_fdivB : OpR X (binaryOp .FloorDiv) (rI CDB fun i j => .int (i.fdiv j)) := opI fun i j _ _ _ _ _ hc q => floordiv_int hc.1 q (.inl (PyProof.noPylong_of_log2 (by
  have h0 : j.natAbs ≠ 0 := by have := hc.1; omega
  have := (Nat.log2_lt h0).mpr hc.2
  omega)))
end
end L2
/-! ### reversed(xs) of a list: as a list, as a loop's source -/
namespace L2
open PySem PySem.Spec PyProof.Rows
section
variable {prog : Program} {w : World} {A : Around} {E : Value → Shared → Prop} {s : Shared}
end
section
variable {X : Cx} {e : Expr} {te : TE} {p1 p2 p3 pos : Pos}
end
end L2
/-! ### for i, x in enumerate(xs) -/
namespace L2
open PySem PySem.Spec PyProof.Rows
section
variable {X : Cx} {elts : List Expr} {k : Nat} {tpos p pos : Pos} {e : Expr} {te : TE}
end
end L2

/-! ### xs[::-1]; a wished state behind a statement -/
namespace L2
open PySem PySem.Spec PyProof.Rows
section
variable {X : Cx} {e : Expr} {te : TE} {st : Expr} {ts : TO} {pos p2 : Pos}
end
section
variable {X : Cx} {st : Stmt} {t : TS}
end
end L2
/-! ### data: ints, lists, tuples, at any depth -/
namespace L2
open PySem PySem.Spec PyProof.Rows
inductive D where
  | i (n : Int) | l (xs : List D) | t (xs : List D)
mutual
/-- the value v is the datum -/
def Is (H : Hp) : D → V → Prop
  | .i n, v => v = .int n
  | .l xs, v => ∃ a vs, v = .ref a ∧ H a = some (.lst vs) ∧ Iss H xs vs
  | .t xs, v => ∃ a vs, v = .ref a ∧ H a = some (.tup vs) ∧ Iss H xs vs
def Iss (H : Hp) : List D → List V → Prop
  | [], vs => vs = []
  | x :: xs, vs => ∃ u us, vs = u :: us ∧ Is H x u ∧ Iss H xs us
end
theorem is_i {H : Hp} {n : Int} : Is H (.i n) (.int n) := by unfold Is; rfl
theorem is_l {H : Hp} {a : Addr} {xs : List D} {vs : List V} (h : H a = some (.lst vs)) (k : Iss H xs vs) : Is H (.l xs) (.ref a) := by unfold Is; exact ⟨a, vs, rfl, h, k⟩
theorem is_t {H : Hp} {a : Addr} {xs : List D} {vs : List V} (h : H a = some (.tup vs)) (k : Iss H xs vs) : Is H (.t xs) (.ref a) := by unfold Is; exact ⟨a, vs, rfl, h, k⟩
theorem of_i {H : Hp} {n : Int} {v : V} (h : Is H (.i n) v) : v = .int n := by unfold Is at h; exact h
theorem of_l {H : Hp} {xs : List D} {v : V} (h : Is H (.l xs) v) : ∃ a vs, v = .ref a ∧ H a = some (.lst vs) ∧ Iss H xs vs := by unfold Is at h; exact h
theorem of_t {H : Hp} {xs : List D} {v : V} (h : Is H (.t xs) v) : ∃ a vs, v = .ref a ∧ H a = some (.tup vs) ∧ Iss H xs vs := by unfold Is at h; exact h
theorem iss_nil {H : Hp} : Iss H [] [] := by unfold Iss; rfl
theorem iss_cons {H : Hp} {x : D} {xs : List D} {u : V} {us : List V} (h : Is H x u) (k : Iss H xs us) : Iss H (x :: xs) (u :: us) := by unfold Iss; exact ⟨u, us, rfl, h, k⟩
theorem of_cons {H : Hp} {x : D} {xs : List D} {vs : List V} (h : Iss H (x :: xs) vs) : ∃ u us, vs = u :: us ∧ Is H x u ∧ Iss H xs us := by unfold Iss at h; exact h
theorem of_nil {H : Hp} {vs : List V} (h : Iss H [] vs) : vs = [] := by unfold Iss at h; exact h
mutual
theorem Is.mono {H H' : Hp} (s : Same H H') : ∀ {d : D} {v : V}, Is H d v → Is H' d v
  | .i _, _, h => by rw [of_i h]; exact is_i
  | .l xs, _, h => by
    obtain ⟨a, vs, e, q, r⟩ := of_l h
    rw [e]
    exact is_l (s _ _ q) (Iss.mono s r)
  | .t xs, _, h => by
    obtain ⟨a, vs, e, q, r⟩ := of_t h
    rw [e]
    exact is_t (s _ _ q) (Iss.mono s r)
theorem Iss.mono {H H' : Hp} (s : Same H H') : ∀ {xs : List D} {vs : List V}, Iss H xs vs → Iss H' xs vs
  | [], _, h => by rw [of_nil h]; exact iss_nil
  | x :: xs, _, h => by
    obtain ⟨u, us, e, q, r⟩ := of_cons h
    rw [e]
    exact iss_cons (Is.mono s q) (Iss.mono s r)
end
theorem Iss.length {H : Hp} : ∀ {xs : List D} {vs : List V}, Iss H xs vs → vs.length = xs.length
  | [], _, h => by rw [of_nil h]; rfl
  | x :: xs, _, h => by
    obtain ⟨u, us, rfl, _, r⟩ := of_cons h
    rw [List.length_cons, List.length_cons, r.length]
theorem Iss.get {H : Hp} : ∀ {xs : List D} {vs : List V} {j : Nat} {x : D}, Iss H xs vs → xs[j]? = some x → ∃ v, vs[j]? = some v ∧ Is H x v
  | [], _, _, _, _, e => by simp at e
  | x :: xs, _, 0, _, h, e => by
    obtain ⟨u, us, rfl, q, _⟩ := of_cons h
    simp at e
    subst e
    exact ⟨u, rfl, q⟩
  | x :: xs, _, j + 1, _, h, e => by
    obtain ⟨u, us, rfl, _, r⟩ := of_cons h
    obtain ⟨v, e', k⟩ := r.get (j := j) (by simpa using e)
    exact ⟨v, by simpa using e', k⟩
theorem Iss.of_get {H : Hp} {xs : List D} {vs : List V} {j : Nat} {v : V} (h : Iss H xs vs) (e : vs[j]? = some v) : ∃ x, xs[j]? = some x ∧ Is H x v := by
  have hj : j < vs.length := (List.getElem?_eq_some_iff.mp e).1
  have hj' : j < xs.length := by rw [← h.length]; exact hj
  obtain ⟨u, e1, k⟩ := h.get (List.getElem?_eq_getElem hj')
  rw [e] at e1
  cases e1
  exact ⟨_, List.getElem?_eq_getElem hj', k⟩
theorem Iss.append {H : Hp} : ∀ {xs ys : List D} {vs ws : List V}, Iss H xs vs → Iss H ys ws → Iss H (xs ++ ys) (vs ++ ws)
  | [], _, _, _, h, k => by rw [of_nil h]; exact k
  | x :: xs, _, _, _, h, k => by
    obtain ⟨u, us, rfl, q, r⟩ := of_cons h
    exact iss_cons q (r.append k)
theorem Iss.take {H : Hp} : ∀ {xs : List D} {vs : List V} (n : Nat), Iss H xs vs → Iss H (xs.take n) (vs.take n)
  | [], _, n, h => by rw [of_nil h]; simp; exact iss_nil
  | x :: xs, _, 0, h => by simp; exact iss_nil
  | x :: xs, _, n + 1, h => by
    obtain ⟨u, us, rfl, q, r⟩ := of_cons h
    exact iss_cons q (r.take n)
mutual
/-- may be compared -/
def Kin : D → D → Prop
  | .i _, .i _ => True
  | .l xs, .l ys => Kins xs ys
  | .t xs, .t ys => Kins xs ys
  | _, _ => False
def Kins : List D → List D → Prop
  | x :: xs, y :: ys => Kin x y ∧ Kins xs ys
  | _, _ => True
end
mutual
def eqD : D → D → Bool
  | .i a, .i b => decide (a = b)
  | .l xs, .l ys => eqDs xs ys
  | .t xs, .t ys => eqDs xs ys
  | _, _ => false
def eqDs : List D → List D → Bool
  | [], [] => true
  | x :: xs, y :: ys => eqD x y && eqDs xs ys
  | _, _ => false
end
mutual
def dep : D → Nat
  | .i _ => 0
  | .l xs => deps xs + 1
  | .t xs => deps xs + 1
def deps : List D → Nat
  | [] => 0
  | x :: xs => max (dep x) (deps xs)
end
mutual
theorem eqD_iff : ∀ {a b : D}, eqD a b = true ↔ a = b
  | .i a, .i b => by simp [eqD]
  | .i _, .l _ => by simp [eqD]
  | .i _, .t _ => by simp [eqD]
  | .l _, .i _ => by simp [eqD]
  | .l xs, .l ys => by simp [eqD, eqDs_iff (xs := xs) (ys := ys)]
  | .l _, .t _ => by simp [eqD]
  | .t _, .i _ => by simp [eqD]
  | .t _, .l _ => by simp [eqD]
  | .t xs, .t ys => by simp [eqD, eqDs_iff (xs := xs) (ys := ys)]
theorem eqDs_iff : ∀ {xs ys : List D}, eqDs xs ys = true ↔ xs = ys
  | [], [] => by simp [eqDs]
  | [], _ :: _ => by simp [eqDs]
  | _ :: _, [] => by simp [eqDs]
  | x :: xs, y :: ys => by simp [eqDs, eqD_iff (a := x) (b := y), eqDs_iff (xs := xs) (ys := ys)]
end
theorem eqDs_all : ∀ {xs ys : List D}, xs.length = ys.length → eqDs xs ys = (List.range xs.length).all fun j => eqD (xs.getD j (.i 0)) (ys.getD j (.i 0))
  | [], [], _ => by simp [eqDs]
  | x :: xs, y :: ys, h => by
    have ih := eqDs_all (xs := xs) (ys := ys) (by simpa using h)
    rw [eqDs, ih, List.length_cons, List.range_succ_eq_map]
    simp [List.all_map, Function.comp_def]
theorem eqDs_len {xs ys : List D} (h : xs.length ≠ ys.length) : eqDs xs ys = false := by
  cases e : eqDs xs ys with
  | false => rfl
  | true => exact absurd (congrArg List.length (eqDs_iff.mp e)) h
mutual
theorem Is.eqr {K : PySem.W.Frag} {H : Hp} : ∀ {d e : D} {v w : V} {n : Nat}, dep d ≤ n → Kin d e → Is H d v → Is H e w → EqR K H n v w (eqD d e)
  | .i a, .i b, _, _, n, _, _, h, k => by
    rw [of_i h, of_i k, eqD]
    exact EqR.int n a b
  | .l xs, .l ys, _, _, 0, hn, _, _, _ => absurd hn (by unfold dep; omega)
  | .l xs, .l ys, _, _, n + 1, hn, hk, h, k => by
    obtain ⟨a, vs, rfl, ha, ra⟩ := of_l h
    obtain ⟨b, ws, rfl, hb, rb⟩ := of_l k
    have hn' : deps xs ≤ n := by unfold dep at hn; omega
    have hk' : Kins xs ys := by unfold Kin at hk; exact hk
    have l1 := ra.length
    have l2 := rb.length
    rw [eqD]
    by_cases hl : xs.length = ys.length
    · rw [eqDs_all hl, ← l1]
      exact EqR.lists _ (SqL.of ha) (SqL.of hb) (by omega) fun j x y hx hy => Iss.eqr hn' hk' ra rb hx hy
    · rw [eqDs_len hl]
      exact EqR.lens (SqL.of ha) (SqL.of hb) (by omega)
  | .t xs, .t ys, _, _, 0, hn, _, _, _ => absurd hn (by unfold dep; omega)
  | .t xs, .t ys, _, _, n + 1, hn, hk, h, k => by
    obtain ⟨a, vs, rfl, ha, ra⟩ := of_t h
    obtain ⟨b, ws, rfl, hb, rb⟩ := of_t k
    have hn' : deps xs ≤ n := by unfold dep at hn; omega
    have hk' : Kins xs ys := by unfold Kin at hk; exact hk
    have l1 := ra.length
    have l2 := rb.length
    rw [eqD]
    have q := EqR.tuples (d := n) (fun j => eqD (xs.getD j (.i 0)) (ys.getD j (.i 0))) (SqT.of (K := K) ha) (SqT.of (K := K) hb) fun j x y hx hy => Iss.eqr hn' hk' ra rb hx hy
    by_cases hl : xs.length = ys.length
    · rw [eqDs_all hl]
      rw [l1, l2, ← hl, Nat.min_self] at q
      simpa using q
    · rw [eqDs_len hl]
      have z : (vs.length == ws.length) = false := by rw [l1, l2]; simpa using hl
      rw [z, Bool.and_false] at q
      exact q
  | .i _, .l _, _, _, _, _, hk, _, _ => by unfold Kin at hk; exact hk.elim
  | .i _, .t _, _, _, _, _, hk, _, _ => by unfold Kin at hk; exact hk.elim
  | .l _, .i _, _, _, _, _, hk, _, _ => by unfold Kin at hk; exact hk.elim
  | .l _, .t _, _, _, _, _, hk, _, _ => by unfold Kin at hk; exact hk.elim
  | .t _, .i _, _, _, _, _, hk, _, _ => by unfold Kin at hk; exact hk.elim
  | .t _, .l _, _, _, _, _, hk, _, _ => by unfold Kin at hk; exact hk.elim
theorem Iss.eqr {K : PySem.W.Frag} {H : Hp} : ∀ {xs ys : List D} {vs ws : List V} {n : Nat}, deps xs ≤ n → Kins xs ys → Iss H xs vs → Iss H ys ws → ∀ {j : Nat} {x y : V}, vs[j]? = some x → ws[j]? = some y →
    EqR K H n x y (eqD (xs.getD j (.i 0)) (ys.getD j (.i 0)))
  | [], _, _, _, _, _, _, h, _, _, _, _, e, _ => by rw [of_nil h] at e; simp at e
  | _ :: _, [], _, _, _, _, _, _, k, _, _, _, _, e => by rw [of_nil k] at e; simp at e
  | x :: xs, y :: ys, _, _, n, hn, hk, h, k, 0, u, w, e1, e2 => by
    obtain ⟨u', us, rfl, q, _⟩ := of_cons h
    obtain ⟨w', ws, rfl, q', _⟩ := of_cons k
    simp at e1 e2
    subst e1 e2
    have hk' : Kin x y ∧ Kins xs ys := by unfold Kins at hk; exact hk
    have hd : dep x ≤ n := by unfold deps at hn; omega
    exact Is.eqr (d := x) (e := y) hd hk'.1 q q'
  | x :: xs, y :: ys, _, _, n, hn, hk, h, k, j + 1, u, w, e1, e2 => by
    obtain ⟨u', us, rfl, _, r⟩ := of_cons h
    obtain ⟨w', ws, rfl, _, r'⟩ := of_cons k
    have hk' : Kin x y ∧ Kins xs ys := by unfold Kins at hk; exact hk
    have hd : deps xs ≤ n := by unfold deps at hn; omega
    have := Iss.eqr (K := K) hd hk'.2 r r' (j := j) (by simpa using e1) (by simpa using e2)
    simpa using this
end
/-! ### points -/
abbrev Pt := Int × Int
def pt (p : Pt) : D := .t [.i p.1, .i p.2]
/-! ### a list that grows -/
end L2
/-! ### what is newly laid, told by what is true of it -/
namespace L2
open PySem PySem.Spec PyProof.Rows
section
variable {X : Cx} {es : List Expr} {t : TA} {pos : Pos}
def New (H : Hp) (o : HO) (Q : VK) : Prop := ∀ p H2, H p = none → Same H H2 → H2 p = some o → Q (.ref p) H2
theorem New.at {H : Hp} {o : HO} {Q : VK} (q : New H o Q) {p : Addr} (np : H p = none) : Q (.ref p) (upd H p o) := q p _ np (Same.new np) upd_same
def tTupN (t : TA) : TE := fun σ H Q => t σ H fun xs H1 => xs.length ≤ sizeLine ∧ New H1 (.tup xs) Q
def tLstN (t : TA) : TE := fun σ H Q => t σ H fun xs H1 => xs.length ≤ sizeLine ∧ New H1 (.lst xs) Q
theorem pe_tupN {x1} (h : PA X es t) : PE X (.Tuple es x1 pos) (tTupN t) := by
  intro pins s σ H Q I hq
  refine wpAny_Tuple_spliced (thn (h pos pins s σ H _ I hq) fun us s1 ⟨xs, H1, I1, r, z, q⟩ => ⟨by rw [← r.length]; exact z, ?_⟩)
  refine ⟨.ref s1.heap.objs.size, upd H1 s1.heap.objs.size (.tup xs), I1.laid (t' := s1.toks) (fun b u e => Heap.get?_push_of_some _ e) (Nat.le_refl _) ?_, rfl, q.at (I1.hok.fresh (Nat.le_refl _))⟩
  exact ⟨z, us, r, ⟨_, Heap.get?_push_size _ rfl, rfl, _, rfl⟩⟩
theorem pe_lstN (h : PA X es t) : PE X (.List es pos) (tLstN t) := by
  intro pins s σ H Q I hq
  refine wpAny_List_spliced (thn (h pos pins s σ H _ I hq) fun us s1 ⟨xs, H1, I1, r, z, q⟩ => ⟨by rw [← r.length]; exact z, ?_⟩)
  refine ⟨.ref s1.heap.objs.size, upd H1 s1.heap.objs.size (.lst xs), I1.laid (t' := s1.toks) (fun b u e => Heap.get?_push_of_some _ e) (Nat.le_refl _) ?_, rfl, q.at (I1.hok.fresh (Nat.le_refl _))⟩
  exact ⟨z, us, 0, r, Heap.get?_push_size _ rfl⟩
theorem OpR.imp {f : Value → Value → Sem Value} {r r' : R2} (h : OpR X f r) (k : ∀ x y H Q, r' x y H Q → r x y H Q) : OpR X f r' := fun pins s σ H x y v u Q I rx ry q => h pins s σ H x y v u Q I rx ry (k _ _ _ _ q)
theorem CallR.imp {f : Value} {r r' : List V → Hp → VK → Prop} (h : CallR X f r) (k : ∀ xs H Q, r' xs H Q → r xs H Q) : CallR X f r' := fun pins s σ H xs us Q I rs q => h pins s σ H xs us Q I rs (k _ _ _ q)
/-- a + b, two lists of data -/
theorem op_catN : OpR X (binaryOp .Add) (fun x y H Q => ∃ xs zs, Is H (.l xs) x ∧ Is H (.l zs) y ∧ xs.length + zs.length ≤ sizeLine ∧ ∀ p H2, H p = none → Same H H2 → Is H2 (.l (xs ++ zs)) (.ref p) → Q (.ref p) H2) :=
  op_cat.imp fun x y H Q ⟨xs, zs, hx, hz, hl, q⟩ => by
    obtain ⟨a, vs, rfl, ha, ra⟩ := of_l hx
    obtain ⟨b, ws, rfl, hb, rb⟩ := of_l hz
    exact ⟨a, b, vs, ws, rfl, rfl, ha, hb, by rw [ra.length, rb.length]; exact hl, fun p np => q p _ np (Same.new np) (is_l upd_same ((ra.append rb).mono (Same.new np)))⟩
/-- list(xs), xs a list of data -/
theorem call_list_ofN : CallR X (.type "list") (fun vs H Q => ∃ v xs, vs = [v] ∧ (Is H (.l xs) v ∨ Is H (.t xs) v) ∧ ∀ p H2, H p = none → Same H H2 → Is H2 (.l xs) (.ref p) → Q (.ref p) H2) :=
  call_list_of.imp fun vs H Q ⟨v, xs, ev, hx, q⟩ => by
    subst ev
    rcases hx with hx | hx
    · obtain ⟨a, ws, rfl, ha, ra⟩ := of_l hx
      exact ⟨a, ws, rfl, .inl (SqL.of ha), fun p np => q p _ np (Same.new np) (is_l upd_same (ra.mono (Same.new np)))⟩
    · obtain ⟨a, ws, rfl, ha, ra⟩ := of_t hx
      exact ⟨a, ws, rfl, .inr (SqT.of ha), fun p np => q p _ np (Same.new np) (is_l upd_same (ra.mono (Same.new np)))⟩
theorem Iss.atI {H : Hp} {xs : List D} {vs : List V} {i : Int} {x : D} (h : Iss H xs vs) (e : L2.atI xs i = some x) : ∃ u, L2.atI vs i = some u ∧ Is H x u := by
  unfold L2.atI at e ⊢
  rw [h.length]
  cases q : ixN xs.length i with
  | none => rw [q] at e; cases e
  | some j =>
    rw [q] at e
    obtain ⟨u, e1, k⟩ := h.get (j := j) e
    exact ⟨u, e1, k⟩
theorem ix_listN : IxR X (fun x y H Q => ∃ xs i d, Is H (.l xs) x ∧ y = .int i ∧ atI xs i = some d ∧ ∀ u, Is H d u → Q u H) := by
  intro value slice pins s σ H x y v u Q I rx ry h hs
  obtain ⟨xs, i, d, hx, ey, e, q⟩ := h
  obtain ⟨a, vs, rfl, ha, ra⟩ := of_l hx
  obtain ⟨z, ez, hz⟩ := ra.atI e
  exact ix_list value slice pins s σ H (.ref a) y v u Q I rx ry ⟨a, vs, i, z, rfl, ey, SqL.of ha, ez, q z hz⟩ hs
theorem ix_tupN : IxR X (fun x y H Q => ∃ xs i d, Is H (.t xs) x ∧ y = .int i ∧ atI xs i = some d ∧ ∀ u, Is H d u → Q u H) := by
  intro value slice pins s σ H x y v u Q I rx ry h hs
  obtain ⟨xs, i, d, hx, ey, e, q⟩ := h
  obtain ⟨a, vs, rfl, ha, ra⟩ := of_t hx
  obtain ⟨z, ez, hz⟩ := ra.atI e
  exact ix_tup value slice pins s σ H (.ref a) y v u Q I rx ry ⟨a, vs, i, z, rfl, ey, SqT.of ha, ez, q z hz⟩ hs
/-- len(xs) -/
theorem call_lenN : CallR X (.builtin "len") (fun vs H Q => ∃ v xs, vs = [v] ∧ (Is H (.l xs) v ∨ Is H (.t xs) v) ∧ Q (.int xs.length) H) :=
  call_len_seq.imp fun vs H Q ⟨v, xs, ev, hx, q⟩ => by
    subst ev
    rcases hx with hx | hx
    · obtain ⟨a, ws, rfl, ha, ra⟩ := of_l hx
      exact ⟨a, ws, rfl, .inl (SqL.of ha), by rw [ra.length]; exact q⟩
    · obtain ⟨a, ws, rfl, ha, ra⟩ := of_t hx
      exact ⟨a, ws, rfl, .inr (SqT.of ha), by rw [ra.length]; exact q⟩
end
end L2
/-! ### exceptions of own classes: raised in a def, passed on, caught -/
namespace L2
open PySem PySem.Spec PyProof.Rows
section
variable {P : Program} {w : World} {H : Hp} {h : Heap} {a : Addr} {o : HO}
theorem ObjOk.obj (x : ObjOk P w H h a o) : ∃ ob, h.get? a = some ob := by
  cases o with
  | lst xs => obtain ⟨_, _, _, _, e⟩ := x; exact ⟨_, e⟩
  | tup xs => obtain ⟨_, _, _, _, e, _⟩ := x; exact ⟨_, e⟩
  | dK kvs => obtain ⟨_, _, _, _, _, _, _, e, _⟩ := x; exact ⟨_, e⟩
  | dT kvs => obtain ⟨_, _, _, _, _, _, _, e, _⟩ := x; exact ⟨_, e⟩
  | set S n => obtain ⟨_, _, _, _, e, _⟩ := x; exact ⟨_, e⟩
  | ins C dx fs => obtain ⟨_, _, _, e, _⟩ := x; exact ⟨_, e⟩
  | own y => exact x
  | xd fs => obtain ⟨_, ⟨_, _, _, e, _⟩, _⟩ := x; exact ⟨_, e⟩
  | rng lo hi => obtain ⟨_, _, _, e⟩ := x; exact ⟨_, e⟩
  | frz ob u => exact ⟨_, x.1⟩
  | tbl ps => exact ⟨_, x⟩
  | met f y => exact ⟨_, x⟩
  | ext φ => exact x.2.1
end
/-- how an exception of an own class lies behind a call: B is the heap at the raise, without the frames -/
def CX1 (P : Program) (w : World) : CXT := fun outer H s E e s' =>
  ∃ (a C : Addr) (H' : Hp) (B : Heap) (a0 : Value), e = .ref a ∧ E (.ref C) none H' ∧ s'.os = s.os ∧ AllBare s'.gens ∧ Un (frs outer) [] H H' s.heap s'.heap ∧ HOk P w H' B ∧ H' a = none ∧
    Heap.FlyingW B outer a (.ref C) a0 s'.heap ∧ (∀ b o, s.heap.get? b = some o → H b = none → b ∉ frs outer → B.get? b = some o) ∧ (∀ b o, s.heap.get? b = some o → b ∉ frs outer → ∃ o', B.get? b = some o')
/-- an exception of class C that is made here reaches what this body wants of exceptions -/
def Raises (X : Cx) (E : XK) : Prop := ∀ (pins : List (Addr × Obj)) (σ : St) (H : Hp) (s : Shared) (h' : Heap) (e C : Addr) (args : List Value), Inv X pins σ H s → Heap.MadeExcOf s.heap h' e (.ref C) args → E (.ref C) none H → X.xe (.ref e) { s with heap := h' }
theorem passE0 {X : Cx} {P : Program} {w : World} : Passes (CX1 P w) X E0 := fun _ _ _ _ _ _ _ ⟨_, _, _, _, _, _, z, _⟩ => z.elim
section
variable {X : Cx} {pins : List (Addr × Obj)} {σ : St} {H H' : Hp} {s s' : Shared} {B h' : Heap} {l : List Env}
theorem un_fly (u : Un (frs l) [] H H' s.heap s'.heap) (fl : s'.heap.FunFrames B l) (kB : ∀ b o, s.heap.get? b = some o → H b = none → b ∉ frs l → B.get? b = some o) (tB : ∀ b o, s.heap.get? b = some o → b ∉ frs l → ∃ o', B.get? b = some o')
    (st : B.StaysIn h') (up : s'.heap.UpToSlots h') : Un (frs l) [] H H' s.heap h' where
  keep := fun b o e n hb _ => st b o (kB b o e n hb)
  slot := fun b o e n hb hx => by
    obtain ⟨sl, e1⟩ := u.slot b o e n hb hx
    obtain ⟨_, o', e2, d⟩ := fl.mem hb
    rw [e1] at e2
    cases e2
    obtain ⟨sl', e3⟩ := up b _ e1 d
    exact ⟨sl', e3⟩
  free := u.free
  there := fun b o e hx => by
    by_cases hb : b ∈ frs l
    · obtain ⟨_, o', e2, d⟩ := fl.mem hb
      obtain ⟨sl', e3⟩ := up b _ e2 d
      exact ⟨_, e3⟩
    · obtain ⟨o', e2⟩ := tB b o e hb
      exact ⟨o', st b o' e2⟩
  tups := u.tups
  frzs := u.frzs
  tbls := u.tbls
theorem Inv.nstk (I : Inv X pins σ H s) {b : Addr} {o : Obj} (e : X.s₀.heap.get? b = some o) (hb : b ∉ X.fs) : b ∉ frs X.stack := fun z => by
  rcases List.mem_cons.mp (I.stkSub b z) with q | q
  · exact absurd q (Nat.ne_of_lt (Nat.lt_of_lt_of_le (Heap.lt_size e) I.ok.above))
  · exact hb q
theorem frs_in {env : Env} {b : Addr} (he : env ∈ l) (hf : env.frame = some b) : b ∈ frs l := List.mem_filterMap.mpr ⟨env, he, hf⟩
theorem Inv.hidden (I : Inv X pins σ H s) : HOk X.prog X.w H (PySem.W.hideAll s.heap (frs X.stack)) := fun a o e => by
  refine (I.hok a o e).stay (fun b u hb q => PySem.W.hideAll_get _ q fun z => ?_) (fun _ q => q) fun _ _ q => q
  have n := I.stkFree b z
  rcases hb with rfl | hb
  · rw [n] at e; cases e
  · rw [n] at hb; cases hb
/-- the frame at hand is on top of the stack, nothing is walked from outside -/
structure Fnc (X : Cx) : Prop where
  ex : X.ex = []
  stk : X.stack = X.env :: X.outer
  fr : X.env.frame = some X.env.locals
theorem CX1.mk {E : XK} {e C : Addr} {a0 : Value} (F : Fnc X) (I : Inv X pins σ H s) (os : s'.os = s.os) (bare : AllBare s'.gens) (u : Un (frs X.stack) [] H H' s.heap s'.heap) (hB : HOk X.prog X.w H' B) (hE : E (.ref C) none H') (hn : H' e = none)
    (fl : Heap.FlyingW B X.outer e (.ref C) a0 s'.heap) (kB : ∀ b o, s.heap.get? b = some o → H b = none → b ∉ frs X.stack → B.get? b = some o) (tB : ∀ b o, s.heap.get? b = some o → b ∉ frs X.stack → ∃ o', B.get? b = some o') :
    CX1 X.prog X.w X.outer X.H₀ X.s₀ E (.ref e) s' := by
  have J : Inv X pins σ H' s' := I.call' (ch := []) os u (hB.kept fl.1) bare fun _ z => absurd z (by simp)
  have ub : Un X.fs X.ex X.H₀ H' X.s₀.heap s'.heap := J.base
  have nx : ∀ b : Addr, b ∉ X.ex := fun b => by rw [F.ex]; simp
  rw [F.ex] at ub
  refine ⟨e, C, H', B, a0, rfl, hE, J.os, J.bare, ub, hB, hn, fl, fun b o q n hb => ?_, fun b o q hb => ?_⟩
  · exact kB b o (I.base.keep b o q n hb (nx b)) (I.base.free b o q n (nx b)) (I.nstk q hb)
  · obtain ⟨o', q'⟩ := I.base.there b o q (nx b)
    exact tB b o' q' (I.nstk q hb)
theorem raises_of {CX : CXT} {E : XK} (F : Fnc X) (hcx : CX = CX1 X.prog X.w) (hxe : X.xe = fun e s' => wpAny (model X.prog X.w) X.A (leaving X.env e) (fun _ s'' => CX X.outer X.H₀ X.s₀ E e s'') (fun e' s'' => CX X.outer X.H₀ X.s₀ E e' s'') s') : Raises X E := by
  intro pins σ H s h' e C args I hx hE
  subst hcx
  rw [hxe]
  have fb := I.stack
  have hl : s.heap.FunFrames (PySem.W.hideAll s.heap (frs X.stack)) (X.env :: X.outer) := by
    rw [F.stk] at fb ⊢
    exact PySem.W.funFrames_hide fb fun env he b hb => frs_in he hb
  refine wpAny_leaves_madeW (base := PySem.W.hideAll s.heap (frs X.stack)) (by rw [I.ok.frames, F.stk]) F.fr (fun b o q => PySem.W.of_hideAll _ q) hl hx fun h'' t fl _ _ up => ?_
  have kB : ∀ b o, s.heap.get? b = some o → b ∉ frs X.stack → (PySem.W.hideAll s.heap (frs X.stack)).get? b = some o := fun b o q n => PySem.W.hideAll_get _ q n
  have hn : H e = none := by
    cases q : H e with
    | none => rfl
    | some o =>
      obtain ⟨ob, z⟩ := (I.hok e o q).obj
      rw [hx.new] at z
      cases z
  have u0 : Un (frs X.stack) [] H H s.heap h' := Un.kept hx.keeps
  have fl' : h'.FunFrames (PySem.W.hideAll s.heap (frs X.stack)) X.stack := by
    rw [F.stk]
    rw [F.stk] at hl
    exact hl.of_keeps fun b o q _ => ⟨o, hx.keeps b o q, rfl⟩
  have u : Un (frs X.stack) [] H H s.heap h'' := un_fly (s' := { s with heap := h' }) u0 fl' (fun b o q _ n => kB b o q n) (fun b o q n => ⟨o, kB b o q n⟩) fl.1 up
  exact CX1.mk (s' := { s with heap := h'' }) F I rfl I.bare u I.hidden hE hn fl (fun b o q _ n => kB b o q n) (fun b o q n => ⟨o, kB b o q n⟩)
theorem passes_of {CX : CXT} {E : XK} (F : Fnc X) (hcx : CX = CX1 X.prog X.w) (hxe : X.xe = fun e s' => wpAny (model X.prog X.w) X.A (leaving X.env e) (fun _ s'' => CX X.outer X.H₀ X.s₀ E e s'') (fun e' s'' => CX X.outer X.H₀ X.s₀ E e' s'') s') : Passes (CX1 X.prog X.w) X E := by
  intro pins σ H s e s' I hc
  subst hcx
  rw [hxe]
  obtain ⟨a, C, H', B, a0, rfl, hE, os, bare, u, hB, hn, fl, kB, tB⟩ := hc
  refine wpAny_leaves_onW (by rw [I.ok.frames, F.stk]) F.fr (by rw [← F.stk]; exact fl) fun h'' fl'' up => ?_
  exact CX1.mk (s' := { s' with heap := h'' }) F I os bare (un_fly u fl.2.2.1 kB tB fl''.1 up) hB hE hn fl'' kB tB
end
/-- THE RULE for a def that may raise -/
theorem Fun.okx {P : Program} {w : World} {K : PySem.W.Frag} {mg : Str → Option Value} {base : Heap} {x qual : Str} {st : Stmt} {f : Addr} {fd : FuncData} {N ps : List Str} {k : Nat} {sp : Sp} (F : Fun K x qual st f fd) (S : FnScope N ps (defScope st)) (len : ∀ vs H Q E, sp vs H Q E → vs.length = ps.length)
    (hbody : ∀ (cdv : Value) (A : Around) (outer : List Env) (s : Shared) (H : Hp) (vs : List V) (Q : VK) (E : XK), Room k (A.deeper (envOfC qual (defScope st) s.heap.objs.size f cdv)) → sp vs H Q E →
      Raises (cxOf (CX1 P w) P w K mg base N qual (defScope st) f cdv A outer s H E) E → Passes (CX1 P w) (cxOf (CX1 P w) P w K mg base N qual (defScope st) f cdv A outer s H E) E →
      ∃ t, PSs (cxOf (CX1 P w) P w K mg base N qual (defScope st) f cdv A outer s H E) (defBody st) t ∧ t { nx := fun _ H' => Q .non H', rt := Q } (start N vs) H) : FnOk P w K mg base (CX1 P w) (k + 1) f fd ps sp := by
  obtain ⟨oc, od, kV, doc, pm, an, cdv, ct, osl, rfl, lk, hcd⟩ := F.ex
  refine fn_of lk hcd S len fun A outer s H vs Q E hr hsp => ?_
  have Fn : Fnc (cxOf (CX1 P w) P w K mg base N qual (defScope st) f cdv A outer s H E) := ⟨rfl, rfl, rfl⟩
  exact hbody cdv A outer s H vs Q E hr hsp (raises_of Fn rfl rfl) (passes_of Fn rfl rfl)
/-- .. with a try in it: the frame is on top -/
theorem Fun.oky {P : Program} {w : World} {K : PySem.W.Frag} {mg : Str → Option Value} {base : Heap} {x qual : Str} {st : Stmt} {f : Addr} {fd : FuncData} {N ps : List Str} {k : Nat} {sp : Sp} (F : Fun K x qual st f fd) (S : FnScope N ps (defScope st)) (len : ∀ vs H Q E, sp vs H Q E → vs.length = ps.length)
    (hbody : ∀ (cdv : Value) (A : Around) (outer : List Env) (s : Shared) (H : Hp) (vs : List V) (Q : VK) (E : XK), Room k (A.deeper (envOfC qual (defScope st) s.heap.objs.size f cdv)) → sp vs H Q E →
      Fnc (cxOf CX0 P w K mg base N qual (defScope st) f cdv A outer s H E).nox →
      ∃ t, PSs (cxOf CX0 P w K mg base N qual (defScope st) f cdv A outer s H E).nox (defBody st) t ∧ t { nx := fun _ H' => Q .non H', rt := Q } (start N vs) H) : FnOk P w K mg base CX0 (k + 1) f fd ps sp :=
  F.ok S len fun cdv A outer s H vs Q E hr hsp => hbody cdv A outer s H vs Q E hr hsp ⟨rfl, rfl, rfl⟩

/-! ### raise C(e, ..) -/
section
variable {X : Cx} {pos np cpos : Pos} {x : Str} {C : Addr} {E : XK} {e : Expr} {es : List Expr} {t : TA}
abbrev bmV : List Value := [.type "ValueError", .type "Exception", .type "BaseException", .type "object"]
theorem exc_obj {K : PySem.W.Frag} {h : Heap} {bmB : List Value} {newId : String} (Y : K.In h) (q : PySem.W.excIn K C bmB newId = true) :
    ∃ bm N nm qn bs hdct sn sub ab col dd k0 k1 k2 k3 k5 mN, h.get? C = some (excClassObj nm qn C N bs bm hdct sn sub ab col dd k0 k1 k2 k3 k5 newId) ∧ h.Ns N mN ∧ mN "__init__" = none ∧ OwnTail h bmB bm := by
  unfold PySem.W.excIn at q
  split at q
  case h_2 => cases q
  rename_i dd cd sl ho
  split at q
  case h_2 => cases q
  rename_i C' bm k0 k1 k2 k3 n k5 hm hs
  rw [Bool.and_eq_true, Bool.and_eq_true, Bool.and_eq_true, Bool.and_eq_true, Bool.and_eq_true, beq_iff_eq, beq_iff_eq, beq_iff_eq, Bool.not_eq_true'] at q
  obtain ⟨⟨⟨⟨⟨e1, e2⟩, e3⟩, e4⟩, e5⟩, e6⟩ := q
  subst e1 e2
  rcases cd with ⟨nm, bs, mro, ns, qn, hd, sn, sub, ab, col, del⟩
  dsimp only at hm e3 e5 e6
  subst hm e3
  have hsl : sl = #[k0, k1, k2, k3, some (.builtin n), k5] := by
    rcases sl with ⟨l⟩
    have hs' : l = _ := hs
    rw [hs']
  subst hsl
  exact ⟨bm, ns, nm, qn, bs, hd, sn, sub, ab, col, dd, k0, k1, k2, k3, k5, _, Y _ _ ho, .of_isNs (PySem.W.isNs_of_in Y e5), PySem.W.nsMap_none_of_in Y e5 e6, PySem.W.tail_of_in Y e4⟩
def tRaise (C : Addr) (E : XK) (t : TA) : TS := fun _ σ H => t σ H fun vs H1 => vs.length ≤ sizeLine ∧ E (.ref C) none H1
theorem ps_raise (hR : Raises X E) (hg : Gl X x) (hm : X.mg x = some (.ref C)) (hC : PySem.W.excIn X.K C bmV "ValueError.__new__" = true) (hc : X.calm = true) (ha : PA X (e :: es) t) (hdb : (x == ("__debug__" : Str)) = false := by decide)
    (he : starEach (e :: es) X.env = (false, eval e X.env) :: starEach es X.env := by rfl) (hpl : (backTo cpos (starEach es X.env)).any (·.1) = false := by rfl) :
    PS X (.Raise (some (.Call (.Name x np) (e :: es) [] cpos)) none pos) (tRaise C E t) := by
  intro pins s σ H D I h
  have hcl := I.ok.mod.kin
  obtain ⟨bm', N', nm', qn', bs', hdct', sn', sub', ab', col', dd', k0', k1', k2', k3', k5', mN', hCb, hNb, hnib, TLb⟩ := exc_obj hcl hC
  refine wpAny_Raise_call_subT (q := qn') (N := N') (bs := bs') (bm := bm') (hdct := hdct') (sn := sn') (sub := sub') (ab := ab') (col := col') (dd := dd') (k0 := k0') (k1 := k1') (k2 := k2') (k3 := k3') (k5 := k5') (nm := nm') (mN := mN') PySem.F.excBase_ValueError
    (TLb.hasType (by decide +kernel)) (I.ok.hd hc) (by rw [he]; show (false || (backTo cpos (starEach es X.env)).any (·.1)) = false; rw [hpl]; rfl) hnib (ld_glob I hg hm ⟨rfl, ?_⟩ hdb)
  have h2 := ha cpos pins s σ H _ I h
  rw [he] at h2 ⊢
  refine Calls.evalArgs_plain (thn h2 fun us s1 ⟨vs, H1, I1, r, hz, hE⟩ => ⟨rfl, by rw [← r.length]; exact hz, I1.bk _ _ hCb, hNb.keeps I1.bk, TLb.keeps I1.bk, fun h' e' hx => ?_⟩)
  exact hR pins σ H1 s1 h' e' C us I1 hx hE
end

/-! ### f-strings of ints -/
section
variable {X : Cx} {pos : Pos} {e v : Expr} {es : List Expr} {te : TE}
abbrev TJ := Str → St → Hp → VK → Prop
def PJ (X : Cx) (es : List Expr) (t : TJ) : Prop := ∀ (out : Str) (pins : List (Addr × Obj)) (s : Shared) (σ : St) (H : Hp) (Q : VK), Inv X pins σ H s → t out σ H Q → wpAny (model X.prog X.w) X.A (joinParts out (evalEach es X.env)) (EP X pins σ Q) X.xe s
def tJn : TJ := fun out _ H Q => out.length ≤ sizeLine ∧ Q (.str out) H
def tJc (te : TE) (tr : TJ) : TJ := fun out σ H Q => te σ H fun x H1 => ∃ y, x = .str y ∧ (out ++ y).length ≤ sizeLine ∧ tr (out ++ y) σ H1 Q
theorem pj_nil : PJ X [] tJn := fun out pins s σ H Q I h => joinParts_nil ⟨.str out, H, I.tok _, ⟨_, rfl⟩, h.2⟩ h.1
theorem pj_cons {tr : TJ} (he : PE X e te) (hr : PJ X es tr) : PJ X (e :: es) (tJc te tr) := by
  intro out pins s σ H Q I h
  show wpAny _ _ (joinParts out (eval e X.env :: evalEach es X.env)) _ _ _
  refine joinParts_cons (thn (he pins s σ H _ I h) fun u s1 ⟨x, H1, I1, r1, y, ex, hz, q1⟩ => ?_)
  subst ex
  obtain ⟨tk, rfl⟩ := r1
  exact ⟨hz, hr (out ++ y) pins s1 σ H1 Q I1 q1⟩
theorem pe_fstr {v2 : Expr} {t : TJ} (h : PJ X (e :: v2 :: es) t) : PE X (.JoinedStr (e :: v2 :: es) pos) (fun σ H Q => t Str.empty σ H Q) := fun pins s σ H Q I hq => JoinedStr_many (h Str.empty pins s σ H Q I hq)
theorem pe_fint (hv : PE X v te) : PE X (.FormattedValue v (-1) none pos) (fun σ H Q => te σ H fun x H1 => ∃ i, x = .int i ∧ i.natAbs.log2 < 1920 ∧ Q (.str (toString i)) H1) := by
  intro pins s σ H Q I h
  refine FormattedValue_plain (thn (hv pins s σ H _ I h) fun u s1 ⟨x, H1, I1, r1, i, ex, hz, q1⟩ => ?_)
  subst ex
  obtain ⟨tk, rfl⟩ := r1
  exact formatField_int_small hz ⟨.str _, H1, I1.tok _, ⟨_, rfl⟩, q1⟩
end

/-! ### f(e, ..), f a name that holds a def -/
section
variable {X : Cx} {CX : CXT} {ps : List Str} {sp : Sp} {E : XK} {x : Str} {p pos : Pos} {e : Expr} {es : List Expr} {t : TA} {i : Nat}
end
end L2
/-! ### isinstance of an exception that is held -/
namespace L2
open PySem PySem.Calls PyProof.Rows PySem.W Builtin Builtin.ObjectAttr Builtin.Getset_descriptor
/-- what is known of a class of exceptions -/
structure XC (K : Frag) (C : Addr) : Prop where
  cl : (clsIn K C).isSome = true
  ga : findIn K (.ref C) "__getattribute__" = some (some (.builtin "BaseException.__getattribute__"))
  gt : findIn K (.ref C) "__getattr__" = some none
  ca : findIn K (.ref C) "__class__" = some (some (.builtin "object.__class__"))
  gn : specialIn K (.builtin "object.__class__") "__get__" = some (some (.builtin "getset_descriptor.__get__"))
  tk : takesIn K (.builtin "object.__class__") = some true
  ob : mroIn K C (.type "object") = some true
  be : mroIn K C (.type "BaseException") = some true
section
variable {prog : Program} {w : World} {A : Around} {E : Value → Shared → Prop} {K : Frag} {x C : Addr} {h : Heap} {g : Array GenState} {d : Drawn} {t : Nat} {os : OsState}
theorem xc_look {M : Model} {o : Obj} (e : h.get? x = some o) (c : o.cls = .ref C) : Looks M h (typeOf (.ref x)) (.ref C) := c ▸ (Looks.ld e).andThen .now
theorem xc_get {R : Result → Shared → Prop} {tp : Value} (Y : K.In h) (F : XC K C) (LT : ∀ M : Model, Looks M h (typeOf (.ref x)) (.ref C)) (q : R (.ok (.ret (.ref C))) ⟨h, g, d, t, os⟩) :
    codeAny (model prog w) A (.call (.builtin "getset_descriptor.__get__") ⟨[.builtin "object.__class__", .ref x, tp], []⟩) R ⟨h, g, d, t, os⟩ := by
  have L0 := LT (model prog w)
  have L1 := looks_mroIn (M := model prog w) Y F.ob
  refine codeAny_call_builtin KF.slot_gs.plain KF.entry_gs (KF.slot_gs.check _ _ _ _ _ _ _ _ KF.type_class (KF.args_gs _ _ _) ?_)
  unfold Builtin.«getset_descriptor.__get__» descrGet
  rw [dga_obj]
  refine wpAny_bind (wpAny_pure ?_)
  unfold descrGetter descrCheckInstance descrNameAndClass isInstance
  simp only [KF.owner_class]
  repeat lk
  refine ⟨Code.quiet_builtin _ (by decide +kernel), codeAny_builtin KF.entry_class ?_⟩
  unfold Builtin.«object.__class__» shownTypeOf
  repeat lk
  exact q
theorem xc_find {M : Model} (Y : K.In h) (F : XC K C) : Looks M h (find (.ref x) (.ref C) "__class__") (.bind (.builtin "getset_descriptor.__get__") (.builtin "object.__class__")) := by
  have L1 := looks_findIn (M := M) Y F.ca
  have L2 : Looks M h (getOf (some (.builtin "object.__class__"))) (some (.builtin "getset_descriptor.__get__")) := looks_specialIn Y F.gn
  have L3 := looks_takesIn (M := M) Y F.tk
  exact L1.andThen (L2.andThen ((show Looks M h (dataDescriptor? (some (.builtin "object.__class__")) (some (.builtin "getset_descriptor.__get__"))) (some (.builtin "getset_descriptor.__get__", .builtin "object.__class__")) from L3.andThen .now).andThen (Looks.tag .now)))
theorem xc_entry {tk : Tok} {Q : Fin → Shared → Prop} (Y : K.In h) (F : XC K C) (LT : ∀ M : Model, Looks M h (typeOf (.ref x)) (.ref C)) (q : Q (.done (.ret (.ref C))) ⟨h, g, d, t, os⟩) :
    wpAny (model prog w) A (Builtin.«object.__getattribute__» ⟨[.ref x, .str "__class__" tk], []⟩) Q E ⟨h, g, d, t, os⟩ := by
  have L0 := LT (model prog w)
  have L1 := xc_find (x := x) (M := model prog w) Y F
  refine wpAny_bind (wpAny_pure (wpAny_bind (wpAny_pure (wpAny_bind (L0.at (wpAny_bind (L1.at ?_)))))))
  show wpAny _ _ (holding [.builtin "object.__class__"] (call (.builtin "getset_descriptor.__get__") [.builtin "object.__class__", .ref x, .ref C]) >>= ret) _ _ _
  exact wpAny_bind (wpAny_holding (wpAny_call (xc_get Y F LT (wpAny_pure q))))
theorem xc_check {nameV : Value} {M : Model} {Q : Unit → Shared → Prop} (Y : K.In h) (F : XC K C) (LT : ∀ M : Model, Looks M h (typeOf (.ref x)) (.ref C)) (q : Q () ⟨h, g, d, t, os⟩) :
    wpAny M A (checkBuiltinCall "BaseException.__getattribute__" ⟨[.ref x, nameV], []⟩) Q E ⟨h, g, d, t, os⟩ := by
  have e1 : builtinKind "BaseException.__getattribute__" = some .slot := by decide +kernel
  have e2 : splitId "BaseException.__getattribute__" = some ("BaseException", "__getattribute__") := by decide +kernel
  have ha := PySem.F.args_bexc_ga (.ref x) nameV
  have L0 := LT M
  have L1 := looks_mroIn (M := M) Y F.be
  simp only [checkBuiltinCall, e1, e2]
  refine wpAny_bind ?_
  unfold isInstance
  repeat (first | lk | wp_step)
  exact q
theorem xc_attr {Q : Option Value → Shared → Prop} (Y : K.In h) (F : XC K C) (LT : ∀ M : Model, Looks M h (typeOf (.ref x)) (.ref C)) (q : Q (some (.ref C)) ⟨h, g, d, t + 1, os⟩) : wpAny (model prog w) A (getAttr? (.ref x) "__class__") Q E ⟨h, g, d, t, os⟩ := by
  have L0 := LT (model prog w)
  have L1 := looks_findIn (M := model prog w) Y F.ga
  have L2 := looks_findIn (M := model prog w) Y F.gt
  have e2 : (Value.builtin "BaseException.__getattribute__" == Value.builtin "object.__getattribute__") = false := by decide +kernel
  have e1 : (onTheHeap (Value.ref C) && Value.builtin "BaseException.__getattribute__" == Value.builtin "object.__getattribute__") = false := by rw [e2]; rfl
  have f3 := PySem.F.excAttr_ValueError.ga.bind (.ref x)
  unfold getAttr? getAttrBy? getAttrBy
  refine wpAny_bind (wpAny_mkText (wpAny_bind (wpAny_attempt (wpAny_holding (wpAny_bind (L0.at (wpAny_bind (L1.at ?_))))))))
  dsimp only
  rw [e1]
  simp only [Bool.false_eq_true, if_false]
  repeat (any_goals (first | assumption | with_reducible refine L2.at ?_ | wp_step))
  refine codeAny_call_builtin PySem.F.excAttr_ValueError.ga.plain PySem.F.entry_bexc_ga (xc_check Y F LT (xc_entry Y F LT ?_))
  repeat (any_goals (first | assumption | lk | wp_step))
theorem kitx_exc (F : XC K C) : KitX K (.ref x) (.ref C) (fun h => ∃ o, h.get? x = some o ∧ o.cls = .ref C) where
  ty := fun _ _ _ ⟨_, e, c⟩ => xc_look e c
  it := fun _ _ Y _ => by
    have z := F.cl
    unfold clsIn at z
    split at z
    · rename_i ho
      intro A' Q' E' s' k q
      unfold isType loadHead
      exact wpAny_bind (wpAny_loadPart (k _ _ (Y _ _ ho)) (wpAny_pure q))
    · cases z
  ne := fun h tp dd its n sl Y htp => by
    have z := F.cl
    unfold clsIn at z
    split at z
    · rename_i ho
      refine Bool.eq_false_iff.mpr fun q => ?_
      have e : C = tp := Value.ref.inj (beq_iff_eq.mp q)
      subst e
      have y := (Y _ _ ho).symm.trans htp
      cases y
    · cases z
  ca := fun {_ _ _ _ _ s} Y ⟨_, e, c⟩ k => by
    obtain ⟨hh, g, d, t, os⟩ := s
    exact xc_attr Y F (fun M => xc_look e c) k
end
/-- the exception at a, of the class at C -/
def excO (C a : Addr) : HO := .ext fun h => ∃ o, h.get? a = some o ∧ o.cls = .ref C
theorem excO_ok {P : Program} {w : World} {H : Hp} {h : Heap} {a C : Addr} (e : ∃ o, h.get? a = some o ∧ o.cls = .ref C) : ObjOk P w H h a (excO C a) :=
  ⟨e, e.elim fun o q => ⟨o, q.1⟩, fun _ _ ⟨o, q, c⟩ k => ⟨o, k o q, c⟩⟩
/-- a class, as isinstance takes it -/
def clsV : V → Option Value
  | .ty n => some (.type n)
  | .ref c => some (.ref c)
  | _ => none
theorem clsV_rel {v : V} {c u : Value} (e : clsV v = some c) (r : RelV v u) : u = c := by
  cases v <;> first | (cases e; exact r) | cases e
section
variable {X : Cx}
theorem call_isx : CallR X (.builtin "isinstance") (fun xs H Q => ∃ a C v c b, xs = [.ref a, v] ∧ H a = some (excO C a) ∧ XC X.K C ∧ clsV v = some c ∧ kitOne X.K (.ref C) c = some b ∧ Q (.bl b) H) := by
  intro pins s σ H xs us Q I r h
  obtain ⟨a, C, v, c, b, rfl, ha, F, ev, e, q⟩ := h
  obtain ⟨u, w', rfl, ru, rw'⟩ := vals2 r
  obtain rfl : u = Value.ref a := ru
  obtain rfl := clsV_rel ev rw'
  exact kia_one (kitx_exc F) I.kIn (I.hok a _ ha).1 e (fun z => nomatch z) fun tk => ⟨.bl b, H, I.tok tk, rfl, q⟩
theorem call_isxK {K : Frag} (hK : X.K = K) : CallR X (.builtin "isinstance") (fun xs H Q => ∃ a C v c b, xs = [.ref a, v] ∧ H a = some (excO C a) ∧ XC K C ∧ clsV v = some c ∧ kitOne K (.ref C) c = some b ∧ Q (.bl b) H) := hK ▸ call_isx
theorem clsV_vals : ∀ {vs : List V} {cs its : List Value}, vs.mapM clsV = some cs → Vals vs its → its = cs
  | [], _, _, e, .nil => by cases e; rfl
  | v :: vs, cs, _, e, .cons r t => by
    rw [List.mapM_cons] at e
    obtain ⟨c, e1, e⟩ := Option.bind_eq_some_iff.mp e
    obtain ⟨cs', e2, e⟩ := Option.bind_eq_some_iff.mp e
    cases e
    rw [clsV_rel e1 r, clsV_vals e2 t]
/-- isinstance(e, (A, B, ..)) -/
theorem call_isxs : CallR X (.builtin "isinstance") (fun xs H Q => ∃ a C p vs cs b, xs = [.ref a, .ref p] ∧ H a = some (excO C a) ∧ XC X.K C ∧ H p = some (.tup vs) ∧ vs.mapM clsV = some cs ∧ kitAny X.K (.ref C) cs = some b ∧ Q (.bl b) H) := by
  intro pins s σ H xs us Q I r h
  obtain ⟨a, C, p, vs, cs, b, rfl, ha, F, hp, ev, e, q⟩ := h
  obtain ⟨u, w', rfl, ru, rw'⟩ := vals2 r
  obtain rfl : u = Value.ref a := ru
  obtain rfl : w' = Value.ref p := rw'
  obtain ⟨_, its, rv, ⟨oc, od, dt, sl⟩, ho, hc, n, hd⟩ := (show ObjOk X.prog X.w H s.heap p (.tup vs) from I.hok p _ hp)
  simp only at hc hd
  subst hc hd
  obtain rfl := clsV_vals ev rv
  exact kia_tup (kitx_exc F) I.kIn (I.hok a _ ha).1 ho e (fun z => nomatch z) fun tk => ⟨.bl b, H, I.tok tk, rfl, q⟩
theorem call_isxsK {K : Frag} (hK : X.K = K) : CallR X (.builtin "isinstance") (fun xs H Q => ∃ a C p vs cs b, xs = [.ref a, .ref p] ∧ H a = some (excO C a) ∧ XC K C ∧ H p = some (.tup vs) ∧ vs.mapM clsV = some cs ∧ kitAny K (.ref C) cs = some b ∧ Q (.bl b) H) := hK ▸ call_isxs
end
end L2
/-! ### try: .. except C as n: .. -/
namespace L2
open PySem PySem.Spec PyProof.Rows PySem.W
/-- the context within a try's body; within an except's suite -/
abbrev Cx.inTry (X : Cx) (pn : List (Addr × Obj)) (z : Value → Shared → Prop) : Cx := { X with pn := pn, xe := z }
abbrev Cx.inSuite (X : Cx) (e : Addr) : Cx := { X with A := X.A.mark (some (.ref e)), calm := false, xe := fun _ _ => False }
/-- all names forgotten -/
def nones (σ : St) : St := σ.map fun _ => none
theorem nones_none {σ : St} {i : Nat} {v : V} (h : (nones σ)[i]? = some (some v)) : False := by
  unfold nones at h
  rw [List.getElem?_map] at h
  cases e : σ[i]? with
  | none => rw [e] at h; cases h
  | some a => rw [e] at h; cases h
section
variable {X : Cx} {pins pn : List (Addr × Obj)} {σ : St} {H H' : Hp} {s s' : Shared} {z : Value → Shared → Prop} {e : Addr}
theorem Inv.toTry (I : Inv X pins σ H s) : Inv (X.inTry (X.pn ++ pins) z) [] σ H s :=
  ⟨⟨I.ok.mod, I.ok.kind, I.ok.glob, I.ok.blt, I.ok.above, I.ok.inj, I.ok.has, I.ok.cab, I.ok.hd, I.ok.frames, I.ok.stk, I.ok.exf, I.ok.bs, I.ok.bsz, I.ok.noex, I.ok.exfs, I.ok.funs, I.ok.frf⟩,
    I.os, I.bare, I.base, I.loc, I.cell, I.free, I.freeC, fun p hp => I.pin p (by rw [List.append_nil] at hp; exact hp), I.hok, I.len⟩
theorem Inv.unTry {pins' : List (Addr × Obj)} (I : Inv (X.inTry (X.pn ++ pins) z) pins' σ H s) : Inv X pins σ H s :=
  ⟨⟨I.ok.mod, I.ok.kind, I.ok.glob, I.ok.blt, I.ok.above, I.ok.inj, I.ok.has, I.ok.cab, I.ok.hd, I.ok.frames, I.ok.stk, I.ok.exf, I.ok.bs, I.ok.bsz, I.ok.noex, I.ok.exfs, I.ok.funs, I.ok.frf⟩,
    I.os, I.bare, I.base, I.loc, I.cell, I.free, I.freeC, fun p hp => I.pin p (List.mem_append_left _ hp), I.hok, I.len⟩
theorem Inv.toSuite (I : Inv X pins σ H s) : Inv (X.inSuite e) pins σ H s :=
  ⟨⟨I.ok.mod, I.ok.kind, I.ok.glob, I.ok.blt, I.ok.above, I.ok.inj, I.ok.has, I.ok.cab, fun q => absurd q Bool.false_ne_true, I.ok.frames, I.ok.stk, I.ok.exf, I.ok.bs, I.ok.bsz, I.ok.noex, I.ok.exfs, I.ok.funs, I.ok.frf⟩,
    I.os, I.bare, I.base, I.loc, I.cell, I.free, I.freeC, I.pin, I.hok, I.len⟩
theorem Inv.unSuite (hd : X.calm = true → X.A.handled = none) (I : Inv (X.inSuite e) pins σ H s) : Inv X pins σ H s :=
  ⟨⟨I.ok.mod, I.ok.kind, I.ok.glob, I.ok.blt, I.ok.above, I.ok.inj, I.ok.has, I.ok.cab, hd, I.ok.frames, I.ok.stk, I.ok.exf, I.ok.bs, I.ok.bsz, I.ok.noex, I.ok.exfs, I.ok.funs, I.ok.frf⟩,
    I.os, I.bare, I.base, I.loc, I.cell, I.free, I.freeC, I.pin, I.hok, I.len⟩
theorem SP.unTry {D : Ends} {f : Flow} (h : SP (X.inTry (X.pn ++ pins) z) [] D f s') : SP X pins D f s' := by
  cases f with
  | next => obtain ⟨σ', H', I, q⟩ := h; exact ⟨σ', H', I.unTry, q⟩
  | brk => obtain ⟨σ', H', I, q⟩ := h; exact ⟨σ', H', I.unTry, q⟩
  | cont => obtain ⟨σ', H', I, q⟩ := h; exact ⟨σ', H', I.unTry, q⟩
  | ret u => obtain ⟨v, σ', H', I, r, q⟩ := h; exact ⟨v, σ', H', I.unTry, r, q⟩
/-- the frame's names change anyhow -/
theorem Inv.goes {h' : Heap} {m' : Str → Option Value} {t' : Nat} (I : Inv X pins σ H s) (hn : h'.Ns X.env.locals m') (hs : Heap.SameBut X.env.locals s.heap h') : Inv X pins (nones σ) H { s with heap := h', toks := t' } := by
  have lt : ∀ {b : Addr} {o : Obj}, X.s₀.heap.get? b = some o → b ≠ X.env.locals := fun e => Nat.ne_of_lt (Nat.lt_of_lt_of_le (Heap.lt_size e) I.ok.above)
  refine ⟨I.ok, I.os, I.bare, ⟨fun b o e n hb hx => ?_, fun b o e n hb hx => ?_, I.base.free, fun b o e hx => ?_, I.base.tups, I.base.frzs, I.base.tbls⟩, ⟨m', hn, fun i x v _ e2 _ => (nones_none e2).elim⟩, fun y c e => ?_, I.free, I.freeC, fun p hp => ?_, fun b ob e => ?_, ?_⟩
  · exact (hs.2 b (lt e)).trans (I.base.keep b o e n hb hx)
  · obtain ⟨sl, e1⟩ := I.base.slot b o e n hb hx
    exact ⟨sl, (hs.2 b (lt e)).trans e1⟩
  · obtain ⟨o', e1⟩ := I.base.there b o e hx
    exact ⟨o', (hs.2 b (lt e)).trans e1⟩
  · obtain ⟨w', q⟩ := I.cell y c e
    exact ⟨w', q.sameBut hs (I.cne y c e)⟩
  · obtain ⟨e, n, ne, nf, d⟩ := I.pin p hp
    exact ⟨(hs.2 p.1 ne).trans e, n, ne, nf, d⟩
  · refine (I.hok b ob e).stay (fun c v hc q => (hs.2 c fun ec => ?_).trans q) (fun _ q => q) fun _ _ q => q
    have fr := I.free
    rw [← ec] at fr
    rcases hc with rfl | hc
    · rw [fr] at e; cases e
    · rw [fr] at hc; cases hc
  · unfold nones
    rw [List.length_map]
    exact I.len
theorem Inv.nones (I : Inv X pins σ H s) : Inv X pins (L2.nones σ) H s := I.weak (by unfold L2.nones; rw [List.length_map]) fun i v e => (nones_none e).elim
/-- an exception that is held is tracked -/
theorem Inv.hold {C : Addr} (I : Inv X pins σ H s) (hn : H e = none) (hL : e ≠ X.env.locals) (hnew : X.s₀.heap.get? e = none ∧ (∀ x c, X.env.cells.lookup x = some c → c ≠ e) ∧ (∀ p ∈ X.pn ++ pins, p.1 ≠ e)) (ho : ∃ o, s.heap.get? e = some o ∧ o.cls = .ref C) :
    Inv X pins σ (upd H e (excO C e)) s := by
  obtain ⟨n0, nc, np⟩ := hnew
  have ne0 : ∀ {b : Addr} {o : Obj}, X.s₀.heap.get? b = some o → b ≠ e := fun {b o} q z => by rw [z, n0] at q; cases q
  have neh : ∀ {b : Addr} {o : HO}, H b = some o → b ≠ e := fun q => ne_of_none q hn
  refine ⟨I.ok, I.os, I.bare, ⟨I.base.keep, I.base.slot, fun b o q n hx => ?_, I.base.there, fun b xs q => ?_, fun b o u q => ?_, fun b ps q => ?_⟩, I.loc, I.cell, ?_, fun x c q => ?_, fun p hp => ?_, fun b o q => ?_, I.len⟩
  · rw [upd_ne (ne0 q)]; exact I.base.free b o q n hx
  · have z := I.base.tups b xs q
    rw [upd_ne (neh z)]; exact z
  · have z := I.base.frzs b o u q
    rw [upd_ne (neh z)]; exact z
  · obtain ⟨more, z⟩ := I.base.tbls b ps q
    exact ⟨more, by rw [upd_ne (neh z)]; exact z⟩
  · rw [upd_ne (Ne.symm hL)]; exact I.free
  · rw [upd_ne (nc x c q)]; exact I.freeC x c q
  · obtain ⟨a1, a2, a3⟩ := I.pin p hp
    exact ⟨a1, by rw [upd_ne (np p hp)]; exact a2, a3⟩
  · by_cases hb : b = e
    · subst hb
      rw [upd_same] at q
      cases q
      exact excO_ok ho
    · rw [upd_ne hb] at q
      exact (I.hok b o q).stay (fun _ _ _ q => q) (fun c q => by rw [upd_ne (neh q)]; exact q) fun c xs q => by rw [upd_ne (neh q)]; exact q
end
/-- D with all names forgotten behind a suite -/
def Ends.forget (D : Ends) (n : Nat) : Ends := { nx := fun _ H => D.nx (List.replicate n none) H, rt := D.rt, bk := fun _ H => D.bk (List.replicate n none) H, ct := fun _ H => D.ct (List.replicate n none) H }
theorem nones_rep {σ : St} : nones σ = List.replicate σ.length none := by
  unfold nones
  induction σ with
  | nil => rfl
  | cons a r ih => rw [List.map_cons, ih, List.length_cons, List.replicate_succ]
def tTry (K : Frag) (hc : Addr) (i n : Nat) (tb : XK → TS) (ts : TS) : TS := fun D σ H => ∃ E : XK, tb E D σ H ∧
  ∀ (C e : Addr) (H' : Hp), E (.ref C) none H' → H' e = none → exmOne K (.ref C) (.ref hc) = some true ∧ ts (D.forget n) ((List.replicate n none).set i (some (.ref e))) (upd H' e (excO C e))
theorem ps_try {X : Cx} {x n : Str} {hc : Addr} {i len : Nat} {body suite : List Stmt} {b₀ : Stmt} {tb : XK → TS} {ts : TS} {np hpos pos : Pos} (F : Fnc X) (hl : X.N.length = len) (hN : X.N.Nodup) (hi : X.N[i]? = some n) (hx : Loc X.env.scope n) (hloc : X.env.kindOf n = some .local) (hg : Gl X x) (hm : X.mg x = some (.ref hc))
    (hb : ∀ (E : XK) pn z, Passes (CX1 X.prog X.w) (X.inTry pn z) E → PSs (X.inTry pn z) body (tb E)) (hs : ∀ e, PSs (X.inSuite e) (b₀ :: suite) ts) (hf : X.fn n = true ∨ X.env.scope.names.lookup n = some .local := by first | exact .inl rfl | exact .inr rfl) (hdb : (x == ("__debug__" : Str)) = false := by decide) :
    PS X (.Try body [.ExceptHandler (some (.Name x np)) (some n) (b₀ :: suite) hpos] [] [] pos) (tTry X.K hc i len tb ts) := by
  intro pins s σ H D I ⟨E, hw, hE⟩
  have hP : Passes (CX1 X.prog X.w) (X.inTry (X.pn ++ pins) fun e s' => ∃ σ' H s, Inv X pins σ' H s ∧ CX1 X.prog X.w X.stack H s E e s') E := fun pins' σ' H1 s1 e s' J q => ⟨σ', H1, s1, J.unTry, q⟩
  refine wpAny_Try_except (wpAny_mono (hb E _ _ hP [] s σ H D I.toTry hw) (fun f s1 q => ?_) fun ev s1 q => ?_)
  · have q' := SP.unTry q
    cases f with
    | next => exact wpAny_execs_nil q'
    | ret u => exact q'
    | brk => exact q'
    | cont => exact q'
  obtain ⟨σ1, H1, s0, I0, a, C, H', B, a0, rfl, hEE, os, bare, u, hB, hn, fl, kB, tB⟩ := q
  obtain ⟨hmt, hts⟩ := hE C a H' hEE hn
  have nfr : a ∉ frs X.stack := fun z => by
    obtain ⟨_, o, e1, d⟩ := fl.2.2.1.mem z
    obtain ⟨oe, vs, e2, _, dd, _⟩ := fl.first
    rw [e1] at e2
    cases e2
    exact d _ dd
  have at_ : ∀ {h5 : Heap}, B.StaysIn h5 → s1.heap.UpToSlots h5 → Inv X pins σ1 H' { s1 with heap := h5 } := fun {h5} st up =>
    I0.call' (s' := { s1 with heap := h5 }) (ch := []) os (un_fly u fl.2.2.1 kB tB st up) (hB.kept st) bare fun _ z => absurd z (by simp)
  have bn := fl.2.1
  have new0 : s0.heap.get? a = none := by
    cases q : s0.heap.get? a with
    | none => rfl
    | some o =>
      obtain ⟨o', z⟩ := tB a o q nfr
      rw [bn] at z
      cases z
  have hnL : a ≠ X.env.locals := fun z => nfr (by rw [F.stk, z]; exact frs_in (List.mem_cons_self ..) F.fr)
  have new : X.s₀.heap.get? a = none ∧ (∀ x c, X.env.cells.lookup x = some c → c ≠ a) ∧ (∀ p ∈ X.pn ++ pins, p.1 ≠ a) := by
    refine ⟨?_, fun y c q z => ?_, fun p hp z => ?_⟩
    · cases q : X.s₀.heap.get? a with
      | none => rfl
      | some o =>
        obtain ⟨o', z⟩ := I0.base.there a o q (by rw [F.ex]; simp)
        rw [new0] at z
        cases z
    · obtain ⟨v, o, q1, _⟩ := I0.cell y c q
      rw [z, new0] at q1
      cases q1
    · have q1 := (I0.pin p hp).1
      rw [z, new0] at q1
      cases q1
  refine wpAny_looks_onW (by rw [I.ok.frames, F.stk]) F.fr (by rw [← F.stk]; exact fl) fun h4 held4 up4 => ?_
  refine wpAny_landsW held4 fun h5 fl5 up5 => ?_
  have I5 : Inv (X.inSuite a) pins σ1 H' { s1 with heap := h5 } := (at_ fl5.1 (up4.trans up5)).toSuite
  refine wpAny_handleBy_cons (codeAny_handlers_test (ld_glob I5 hg hm ?_ hdb)) (by intro q; cases q)
  obtain ⟨ob, ho, hcl⟩ := fl5.there
  refine (exm_one (K := X.K) I5.kIn (xc_look ho hcl) hmt).here ?_
  refine codeAny_handlers_suite_as ?_
  refine lands_againW fl5 fun h6 fl6 up6 => ?_
  obtain ⟨ob6, ho6, hcl6⟩ := fl6.there
  have I6 : Inv X pins (nones σ1) (upd H' a (excO C a)) { s1 with heap := h6 } := ((at_ fl6.1 ((up4.trans up5).trans up6)).nones).hold hn hnL new ⟨ob6, ho6, hcl6⟩
  have es : (nones σ1) = List.replicate len none := by rw [nones_rep, I0.len, hl]
  rw [es] at I6
  refine store_ok (X := X.inSuite a) (v := .ref a) I6.toSuite hN hi hx rfl (fun s7 I7 => ?_) hf
  refine wpAny_mono (hs a pins s7 _ _ _ I7 hts) (fun f s8 q => ?_) fun _ _ z => z.elim
  have go : ∀ {σ8 : St} {H8 : Hp}, Inv (X.inSuite a) pins σ8 H8 s8 → (∀ s9, Inv X pins (List.replicate len none) H8 s9 → SP X pins D f s9) →
      wpAny (model X.prog X.w) X.A (do bindName X.env n .none; unbindBehindTheSuite X.env n hpos) (fun _ s9 => SP X pins D f s9) X.xe s8 := fun {σ8 H8} I8 k => by
    obtain ⟨m, hns, _⟩ := I8.loc
    refine wpAny_nameGoes hloc hns (by rw [I.ok.kind]; rfl) fun h9 m9 hn9 hs9 => ?_
    have J := (Inv.unSuite I.ok.hd I8).goes (t' := s8.toks + 1) hn9 hs9
    have e8 : (nones σ8) = List.replicate len none := by rw [nones_rep, I8.len]; exact congrArg (fun k => List.replicate k none) hl
    rw [e8] at J
    exact k _ J
  cases f with
  | next => obtain ⟨σ8, H8, I8, q⟩ := q; exact go I8 fun s9 J => ⟨_, _, J, q⟩
  | brk => obtain ⟨σ8, H8, I8, q⟩ := q; exact go I8 fun s9 J => ⟨_, _, J, q⟩
  | cont => obtain ⟨σ8, H8, I8, q⟩ := q; exact go I8 fun s9 J => ⟨_, _, J, q⟩
  | ret u => obtain ⟨v, σ8, H8, I8, r, q⟩ := q; exact go I8 fun s9 J => ⟨v, _, _, J, r, q⟩
end L2
/-! ### for x in range(hi, lo, -1) -/
namespace L2
open PySem PySem.Spec PyProof.Rows
section
variable {X : Cx} {tg : Expr}
end
end L2
/-! ### any thing as a degree, and its bounds -/
namespace L2
open PySem PySem.Spec PyProof.Rows
def Thing (H : Hp) (v : V) : Prop := (∃ i, v = .int i) ∨ (∃ b, v = .bl b) ∨ v = .non ∨ (∃ x, v = .str x) ∨ (∃ a xs, v = .ref a ∧ H a = some (.lst xs)) ∨ (∃ a xs, v = .ref a ∧ H a = some (.tup xs))
def isI (v : V) : Bool := match v with
  | .int _ => true
  | _ => false
def Within (lo hi : Int) (v : V) : Prop := ∃ i, v = .int i ∧ lo ≤ i ∧ i ≤ hi
theorem within_int {lo hi : Int} {v : V} (h : Within lo hi v) : isI v = true := by obtain ⟨i, rfl, _⟩ := h; rfl
theorem kit_none_int {K : PySem.W.Frag} : PySem.W.kitOne K (.type "NoneType") (.type "int") = some false := kit_of (by decide +kernel) (by decide +kernel) (by decide +kernel)
theorem kit_str_int {K : PySem.W.Frag} : PySem.W.kitOne K (.type "str") (.type "int") = some false := kit_of (by decide +kernel) (by decide +kernel) (by decide +kernel)
theorem kit_list_int {K : PySem.W.Frag} : PySem.W.kitOne K (.type "list") (.type "int") = some false := kit_of (by decide +kernel) (by decide +kernel) (by decide +kernel)
theorem kit_tuple_int {K : PySem.W.Frag} : PySem.W.kitOne K (.type "tuple") (.type "int") = some false := kit_of (by decide +kernel) (by decide +kernel) (by decide +kernel)
def sp_whole : Sp := fun vs H Q _ => ∃ v, vs = [v] ∧ Thing H v ∧ Q (.bl (isI v)) H
end L2
/-! ### for x, y in zip(xs, ys) -/
namespace L2
open PySem PySem.Spec PyProof.Rows
section
variable {X : Cx} {pins : List (Addr × Obj)} {σ : St} {H : Hp} {s : Shared} {h' : Heap} {ch : List Addr} {t' : Nat}
end
section
variable {X : Cx} {elts : List Expr} {k : Nat} {tpos p pos : Pos} {e f : Expr} {te tf : TE}
end
end L2
/-! ### less than -/
namespace PySem.SeqAt
open AutoSeq1 (wpAny_loadPart')
open MeetsSeq MeetsSeq2 MeetsSeq3 SeqRoads2
def LtAt (A : Around) (s : Shared) (y x : Value) (b : Bool) : Prop :=
  ∀ (prog : Program) (w : World) (E : Value → Shared → Prop) (Q : Value → Shared → Prop), Q (.bool b) s → wpAny (model prog w) A (richCompare .Lt y x) Q E s
/-- by the first place that differs -/
def lex (e f : Nat → Bool) (m n : Nat) : Nat → Nat → Bool
  | 0, _ => decide (m < n)
  | k + 1, i => if e i = true then lex e f m n k (i + 1) else f i
theorem lt_loopAt (l b : Addr) (items items2 : Array Value) (n n2 : Nat) (dd dd2 : Option Addr) (sl sl2 : Array (Option Value)) (e f : Nat → Bool) (k : Nat) :
    ∀ i : Nat, min items.size items2.size - i = k → Meets (Builtin.«list.__eq__.loop» ⟨[.ref l, .ref b, rawInt i, rawInt 0], []⟩)
      (fun A R s => s.heap.get? l = some { cls := .type "list", dict := dd, data := .seq items n, slots := sl } ∧ s.heap.get? b = some { cls := .type "list", dict := dd2, data := .seq items2 n2, slots := sl2 } ∧
        (∀ j (h1 : j < items.size) (h2 : j < items2.size), EqAt A.in1 s items[j] items2[j] (e j)) ∧ (∀ j (h1 : j < items.size) (h2 : j < items2.size), e j = false → LtAt A.in1 s items[j] items2[j] (f j)) ∧
        R (.ok (.ret (.bool (lex e f items.size items2.size k i)))) s) := by
  induction k with
  | zero =>
    intro i hk prog w A R s h
    obtain ⟨hp, g, d, tk, os⟩ := s; obtain ⟨hl, hb, he, hf, h⟩ := h
    wp_walk using wpAny_loadPart' hl, wpAny_loadPart' hb
    rcases (by omega : items.size ≤ i ∨ (i < items.size ∧ items2.size ≤ i)) with q | ⟨q1, q2⟩
    · have hi1 : items[((i : Nat) : Int).toNat]? = none := by simp; omega
      rw [hi1]
      wp_walk using wpAny_loadPart' hl, wpAny_loadPart' hb
      exact h
    · have hi1 : items[((i : Nat) : Int).toNat]? = some items[i] := by simp [q1]
      have hi2 : items2[((i : Nat) : Int).toNat]? = none := by simp; omega
      rw [hi1, hi2]
      wp_walk using wpAny_loadPart' hl, wpAny_loadPart' hb
      exact h
  | succ k ih =>
    intro i hk prog w A R s h
    obtain ⟨hp, g, d, tk, os⟩ := s; obtain ⟨hl, hb, he, hf, h⟩ := h
    wp_walk using wpAny_loadPart' hl, wpAny_loadPart' hb
    have hlt : i < items.size := by omega
    have hlt2 : i < items2.size := by omega
    have hi1 : items[((i : Nat) : Int).toNat]? = some items[i] := by simp [hlt]
    have hi2 : items2[((i : Nat) : Int).toNat]? = some items2[i] := by simp [hlt2]
    have hc : ((i : Int) + 1) = ((i + 1 : Nat) : Int) := by push_cast; rfl
    unfold lex at h
    rw [hi1, hi2]
    refine wpAny_bind (he i hlt hlt2 prog w _ _ ?_)
    cases hb' : e i with
    | true =>
      rw [hb', if_pos rfl] at h
      wp_walk
      rw [hc]
      exact ⟨plainId_quiet plain_eq_loop _, codeAny_builtin entry_eq_loop (by
        rw [Around.under_plainId plain_eq_loop _]
        exact ih (i + 1) (by omega) prog w A R _ ⟨hl, hb, he, hf, h⟩)⟩
    | false =>
      rw [hb', if_neg (by simp)] at h
      wp_walk using wpAny_loadPart' hl, wpAny_loadPart' hb
      rw [hi1, hi2]
      refine wpAny_bind (hf i hlt hlt2 hb' prog w _ _ ?_)
      wp_walk
      exact h
theorem list_ltAt (l b : Addr) (items items2 : Array Value) (n n2 : Nat) (dd dd2 : Option Addr) (sl sl2 : Array (Option Value)) (e f : Nat → Bool) :
    Meets (Builtin.«list.__lt__» ⟨[.ref l, .ref b], []⟩)
      (fun A R s => s.heap.get? l = some { cls := .type "list", dict := dd, data := .seq items n, slots := sl } ∧ s.heap.get? b = some { cls := .type "list", dict := dd2, data := .seq items2 n2, slots := sl2 } ∧
        (∀ j (h1 : j < items.size) (h2 : j < items2.size), EqAt A.in1 s items[j] items2[j] (e j)) ∧ (∀ j (h1 : j < items.size) (h2 : j < items2.size), e j = false → LtAt A.in1 s items[j] items2[j] (f j)) ∧
        R (.ok (.ret (.bool (lex e f items.size items2.size (min items.size items2.size) 0)))) s) := by
  intro prog w A R s h
  obtain ⟨hp, g, d, tk, os⟩ := s; obtain ⟨hl, hb, he, hf, h⟩ := h
  have f3 := AutoSeq1.sub_list_list
  wp_walk using wpAny_loadPart' hl, wpAny_loadPart' hb
  exact ⟨plainId_quiet plain_eq_loop _, codeAny_builtin entry_eq_loop (by
    rw [Around.under_plainId plain_eq_loop _]
    exact lt_loopAt l b items items2 n n2 dd dd2 sl sl2 e f _ 0 rfl prog w A R _ ⟨hl, hb, he, hf, by simpa using h⟩)⟩
theorem tuple_ltAt (l b : Addr) (items items2 : Array Value) (n n2 : Nat) (dd dd2 : Option Addr) (sl sl2 : Array (Option Value)) (e f : Nat → Bool) :
    Meets (Builtin.«tuple.__lt__» ⟨[.ref l, .ref b], []⟩)
      (fun A R s => s.heap.get? l = some { cls := .type "tuple", dict := dd, data := .seq items n, slots := sl } ∧ s.heap.get? b = some { cls := .type "tuple", dict := dd2, data := .seq items2 n2, slots := sl2 } ∧
        (∀ j (h1 : j < items.size) (h2 : j < items2.size), EqAt A.in1 s items[j] items2[j] (e j)) ∧ (∀ j (h1 : j < items.size) (h2 : j < items2.size), e j = false → LtAt A.in1 s items[j] items2[j] (f j)) ∧
        R (.ok (.ret (.bool (lex e f items.size items2.size (min items.size items2.size) 0)))) s) :=
  .of_wp fun prog w A R s h => by
    obtain ⟨hp, g, d, tk, os⟩ := s; obtain ⟨hl, hb, he, hf, h⟩ := h
    have f2 := AutoSeq1.sub_tuple_tuple
    have hZ : (items.toList.zip items2.toList).length = min items.size items2.size := by simp
    wp_walk using wpAny_loadPart' hl, wpAny_loadPart' hb, wpAny_forIn_list _ (fun rest b s' => b.1 = none ∧ s' = ⟨hp, g, d, tk, os⟩ ∧ ∃ i, rest = (items.toList.zip items2.toList).drop i ∧ i ≤ min items.size items2.size ∧
      R (.ok (.ret (.bool (lex e f items.size items2.size (min items.size items2.size - i) i)))) ⟨hp, g, d, tk, os⟩) _
    case turn =>
      rintro ⟨y, x⟩ rest b s' ⟨hb', rfl, i, hz, hile, hR⟩
      have hlt : i < (items.toList.zip items2.toList).length := by
        rcases Nat.lt_or_ge i (items.toList.zip items2.toList).length with h' | h'
        · exact h'
        · rw [List.drop_of_length_le h'] at hz; cases hz
      have hm : i < min items.size items2.size := hZ ▸ hlt
      have h1 : i < items.size := Nat.lt_of_lt_of_le hm (Nat.min_le_left _ _)
      have h2 : i < items2.size := Nat.lt_of_lt_of_le hm (Nat.min_le_right _ _)
      rw [List.drop_eq_getElem_cons hlt] at hz
      injection hz with hyx hrest
      have hy : y = items[i] := by have := congrArg Prod.fst hyx; simpa using this
      have hx : x = items2[i] := by have := congrArg Prod.snd hyx; simpa using this
      subst hy hx
      rw [show min items.size items2.size - i = (min items.size items2.size - (i + 1)) + 1 by omega, lex] at hR
      refine wpAny_bind (he i h1 h2 prog w _ _ ?_)
      cases hy : e i with
      | true =>
        rw [hy, if_pos rfl] at hR
        wp_walk
        exact ⟨rfl, rfl, i + 1, hrest, by omega, hR⟩
      | false =>
        rw [hy, if_neg (by simp)] at hR
        rw [if_pos (show (!false) = true from rfl)]
        refine wpAny_bind (wpAny_rule ?_)
        refine wpAny_bind (hf i h1 h2 hy prog w _ _ ?_)
        wp_walk
        exact ⟨_, rfl, hR⟩
    case fin =>
      rintro ⟨b1, b2⟩ s' ⟨hb', rfl, i, hz, hile, hR⟩
      simp only at hb'
      subst hb'
      have hi : i = min items.size items2.size := by
        rcases Nat.lt_or_ge i (items.toList.zip items2.toList).length with h' | h'
        · rw [List.drop_eq_getElem_cons h'] at hz; cases hz
        · omega
      subst hi
      rw [Nat.sub_self] at hR
      wp_walk
      exact ⟨_, rfl, hR⟩
    case h =>
      exact ⟨rfl, rfl, 0, rfl, Nat.zero_le _, by simpa using h⟩
section
variable {A : Around} {s : Shared}
theorem LtAt.int_int (i : Int) (t : Tok) (j : Int) (u : Tok) : LtAt A s (.int i t) (.int j u) (decide (i < j)) := fun prog w E Q h => wpAny_lt_int h
theorem LtAt.lists {l b : Addr} {items items2 : Array Value} {e f : Nat → Bool} (hl : s.heap.IsList l items) (hb : s.heap.IsList b items2) (hu : A.units < cLine)
    (he : ∀ j (h1 : j < items.size) (h2 : j < items2.size), EqAt A.in1 s items[j] items2[j] (e j)) (hf : ∀ j (h1 : j < items.size) (h2 : j < items2.size), e j = false → LtAt A.in1 s items[j] items2[j] (f j)) :
    LtAt A s (.ref l) (.ref b) (lex e f items.size items2.size (min items.size items2.size) 0) := fun prog w E Q h => by
  obtain ⟨⟨cls, dd, data, sl⟩, ho, hc, n, hd⟩ := id hl
  obtain ⟨⟨cls2, dd2, data2, sl2⟩, ho2, hc2, n2, hd2⟩ := id hb
  simp only at hc hd hc2 hd2
  subst hc hd hc2 hd2
  exact richCompare_meets_room (op := .Lt) ⟨_, ho, rfl⟩ ⟨_, ho2, rfl⟩ F.slot_list_lt F.entry_list_lt (F.args_list_lt_2 _ _) (list_ltAt l b items items2 n n2 dd dd2 sl sl2 e f)
    ⟨ho, ho2, he, hf, show Value.bool (lex e f items.size items2.size (min items.size items2.size) 0) ≠ Value.notImplemented ∧ Q (.bool (lex e f items.size items2.size (min items.size items2.size) 0)) s from ⟨(fun x => nomatch x), h⟩⟩ hu
theorem LtAt.tuples {l b : Addr} {items items2 : Array Value} {e f : Nat → Bool} (hl : s.heap.IsTuple l items) (hb : s.heap.IsTuple b items2) (hu : A.units < cLine)
    (he : ∀ j (h1 : j < items.size) (h2 : j < items2.size), EqAt A.in1 s items[j] items2[j] (e j)) (hf : ∀ j (h1 : j < items.size) (h2 : j < items2.size), e j = false → LtAt A.in1 s items[j] items2[j] (f j)) :
    LtAt A s (.ref l) (.ref b) (lex e f items.size items2.size (min items.size items2.size) 0) := fun prog w E Q h => by
  obtain ⟨⟨cls, dd, data, sl⟩, ho, hc, n, hd⟩ := id hl
  obtain ⟨⟨cls2, dd2, data2, sl2⟩, ho2, hc2, n2, hd2⟩ := id hb
  simp only at hc hd hc2 hd2
  subst hc hd hc2 hd2
  exact richCompare_meets_room (op := .Lt) ⟨_, ho, rfl⟩ ⟨_, ho2, rfl⟩ F.slot_tuple_lt F.entry_tuple_lt (F.args_tuple_lt_2 _ _) (tuple_ltAt l b items items2 n n2 dd dd2 sl sl2 e f)
    ⟨ho, ho2, he, hf, show Value.bool (lex e f items.size items2.size (min items.size items2.size) 0) ≠ Value.notImplemented ∧ Q (.bool (lex e f items.size items2.size (min items.size items2.size) 0)) s from ⟨(fun x => nomatch x), h⟩⟩ hu
end
end PySem.SeqAt
/-! ### < of ints, lists, tuples at any depth -/
namespace L2
open PySem PySem.Spec PyProof.Rows
/-- what < tells, d deep -/
inductive LtR (K : PySem.W.Frag) (H : Hp) : Nat → V → V → Bool → Prop where
  | int (d : Nat) (i j : Int) : LtR K H d (.int i) (.int j) (decide (i < j))
  | lists {d : Nat} {a b : Addr} {xs ys : List V} (es fs : Nat → Bool) (h1 : SqL K H a xs) (h2 : SqL K H b ys) (he : ∀ (j : Nat) x y, xs[j]? = some x → ys[j]? = some y → EqR K H d x y (es j)) (hf : ∀ (j : Nat) x y, xs[j]? = some x → ys[j]? = some y → es j = false → LtR K H d x y (fs j)) :
    LtR K H (d + 1) (.ref a) (.ref b) (SeqAt.lex es fs xs.length ys.length (min xs.length ys.length) 0)
  | tuples {d : Nat} {a b : Addr} {xs ys : List V} (es fs : Nat → Bool) (h1 : SqT K H a xs) (h2 : SqT K H b ys) (he : ∀ (j : Nat) x y, xs[j]? = some x → ys[j]? = some y → EqR K H d x y (es j)) (hf : ∀ (j : Nat) x y, xs[j]? = some x → ys[j]? = some y → es j = false → LtR K H d x y (fs j)) :
    LtR K H (d + 1) (.ref a) (.ref b) (SeqAt.lex es fs xs.length ys.length (min xs.length ys.length) 0)
section
variable {X : Cx} {pins : List (Addr × Obj)} {σ : St} {H : Hp} {s : Shared}
theorem rel_at {xs : List V} {is : List Value} {j : Nat} (r : Vals xs is) (q : j < is.toArray.size) : ∃ x, xs[j]? = some x ∧ RelV x is.toArray[j] := by
  have l := r.length
  have q' : j < is.length := by simpa using q
  have hx : xs[j]? = some xs[j] := List.getElem?_eq_getElem (by omega)
  obtain ⟨u, e, ru⟩ := r.get hx
  refine ⟨_, hx, ?_⟩
  have g : is.toArray[j] = u := by
    rw [List.getElem?_eq_getElem q'] at e
    simpa using Option.some.inj e
  rw [g]
  exact ru
theorem LtR.at_ (I : Inv X pins σ H s) {d : Nat} {x y : V} {b : Bool} (h : LtR X.K H d x y b) : ∀ {A : Around} {u v : Value}, A.units + d < cLine → RelV x u → RelV y v → SeqAt.LtAt A s u v b := by
  induction h with
  | int d i j =>
    intro A u v hu ru rv
    obtain ⟨t, rfl⟩ := ru
    obtain ⟨t', rfl⟩ := rv
    exact SeqAt.LtAt.int_int i t j t'
  | @lists d a b xs ys es fs h1 h2 he hf ih =>
    intro A u v hu ru rv
    obtain rfl : u = Value.ref a := ru
    obtain rfl : v = Value.ref b := rv
    obtain ⟨is, r1, p1, z1⟩ := I.list h1
    obtain ⟨js, r2, p2, z2⟩ := I.list h2
    have l1 : xs.length = is.toArray.size := by have := r1.length; simpa using this
    have l2 : ys.length = js.toArray.size := by have := r2.length; simpa using this
    rw [l1, l2]
    refine SeqAt.LtAt.lists p1.isList p2.isList (by omega) (fun j q1 q2 => ?_) (fun j q1 q2 z => ?_)
    · obtain ⟨x, hx, rx⟩ := rel_at r1 q1
      obtain ⟨y, hy, ry⟩ := rel_at r2 q2
      exact ((he j _ _ hx hy).at_ I (by rw [units_in1]; omega) rx ry).2.2
    · obtain ⟨x, hx, rx⟩ := rel_at r1 q1
      obtain ⟨y, hy, ry⟩ := rel_at r2 q2
      exact ih j _ _ hx hy z (by rw [units_in1]; omega) rx ry
  | @tuples d a b xs ys es fs h1 h2 he hf ih =>
    intro A u v hu ru rv
    obtain rfl : u = Value.ref a := ru
    obtain rfl : v = Value.ref b := rv
    obtain ⟨is, r1, p1, z1⟩ := I.tuple h1
    obtain ⟨js, r2, p2, z2⟩ := I.tuple h2
    have l1 : xs.length = is.toArray.size := by have := r1.length; simpa using this
    have l2 : ys.length = js.toArray.size := by have := r2.length; simpa using this
    rw [l1, l2]
    refine SeqAt.LtAt.tuples (show s.heap.IsTuple a is.toArray from p1) (show s.heap.IsTuple b js.toArray from p2) (by omega) (fun j q1 q2 => ?_) (fun j q1 q2 z => ?_)
    · obtain ⟨x, hx, rx⟩ := rel_at r1 q1
      obtain ⟨y, hy, ry⟩ := rel_at r2 q2
      exact ((he j _ _ hx hy).at_ I (by rw [units_in1]; omega) rx ry).2.2
    · obtain ⟨x, hx, rx⟩ := rel_at r1 q1
      obtain ⟨y, hy, ry⟩ := rel_at r2 q2
      exact ih j _ _ hx hy z (by rw [units_in1]; omega) rx ry
/-- < of lists and tuples -/
def rLtS (K : PySem.W.Frag) : R2 := fun x y H Q => ∃ d e, LtR K H d x y e ∧ d ≤ 8 ∧ Q (.bl e) H
theorem op_ltS {k : Nat} (hr : Room k X.A) : OpR X (compareOp .Lt) (rLtS X.K) := by
  intro pins s σ H x y v u Q I rx ry h
  obtain ⟨d, e, r, hd, q⟩ := h
  have hu := hr.un
  exact r.at_ I (A := X.A) (by omega) rx ry X.prog X.w X.xe _ ⟨.bl e, H, I, rfl, q⟩
end
end L2
/-! ### min, max of a list of ints; all, any of a list of truths -/
namespace L2
open PySem PySem.Spec PyProof.Rows
def maxL (ns : List Int) : Int := ns.getD (argBest (fun i j => decide (ns.getD i 0 > ns.getD j 0)) (ns.length - 1)) 0
section
variable {X : Cx}
theorem numAt_of {ys : Array (Int × Tok)} {ns : List Int} (h : ys.toList.map (·.1) = ns) (i : Nat) : numAt ys i = ns.getD i 0 := by
  subst h
  unfold numAt
  rw [List.getD, List.getElem?_map, Array.getElem?_toList]
theorem kept_it {s : Shared} {h' : Heap} {o : Obj} (hk : ∀ b x, b ∉ [s.heap.objs.size] → (s.heap.push o).get? b = some x → h'.get? b = some x) : ∀ b x, s.heap.get? b = some x → h'.get? b = some x :=
  fun b x e => hk b x (fun hm => by rw [List.mem_singleton.mp hm] at e; exact Nat.lt_irrefl _ (Heap.lt_size e)) (Heap.get?_push_of_some _ e)
theorem call_all (hc : X.calm = true) : CallR X (.builtin "all") (fun xs H Q => ∃ (p : Addr) (bs : List Bool), xs = [.ref p] ∧ SqL X.K H p (bs.map V.bl) ∧ Q (.bl (bs.all id)) H) := by
  intro pins s σ H xs us Q I r h
  obtain ⟨p, bs, rfl, hq, q⟩ := h
  obtain ⟨u, rfl, rx⟩ := vals1 r
  cases rx
  obtain ⟨its, r', pl, hz⟩ := I.list hq
  have hl := pl.isList
  have hlt : p < s.heap.objs.size := by obtain ⟨_, e, _⟩ := hl; exact Heap.lt_size e
  have hln : its.length = bs.length := by have := r'.length; simpa using this.symm
  refine call_all_walk (wpAny_pyIter_list hl ?_)
  refine ⟨s.heap.objs.size, [s.heap.objs.size, p], [s.heap.objs.size], its.toArray.size, _, _, fun i => (bs[i]?).getD true, rfl, Walks.list (A := X.A.in1) (I.ok.hd hc) _ p (Nat.ne_of_lt hlt) its.toArray,
    ⟨⟨_, Heap.get?_push_size _ rfl, rfl, rfl⟩, hl.push _⟩, fun i v s' Q' E' hP hQ => ?_, fun h' tk hk => ?_⟩
  · have hv : its[i]? = some v := by simpa using hP
    have hib : i < bs.length := by rw [← hln]; exact (List.getElem?_eq_some_iff.mp hv).1
    obtain ⟨u, hu, ru⟩ := r'.get (show (bs.map V.bl)[i]? = some (.bl bs[i]) by rw [List.getElem?_map, List.getElem?_eq_getElem hib]; rfl)
    rw [hv] at hu
    cases hu
    obtain rfl : v = Value.bool bs[i] := ru
    simp only [List.getElem?_eq_getElem hib, Option.getD_some] at hQ
    exact wpAny_truthy_bool hQ
  · refine ⟨.bl (bs.all id), H, I.kept (kept_it hk), ?_, q⟩
    show Value.bool _ = Value.bool _
    rw [List.size_toArray, hln, PyProof.Rows.LSm.range_all]
theorem call_any (hc : X.calm = true) : CallR X (.builtin "any") (fun xs H Q => ∃ (p : Addr) (bs : List Bool), xs = [.ref p] ∧ SqL X.K H p (bs.map V.bl) ∧ Q (.bl (bs.any id)) H) := by
  intro pins s σ H xs us Q I r h
  obtain ⟨p, bs, rfl, hq, q⟩ := h
  obtain ⟨u, rfl, rx⟩ := vals1 r
  cases rx
  obtain ⟨its, r', pl, hz⟩ := I.list hq
  have hl := pl.isList
  have hlt : p < s.heap.objs.size := by obtain ⟨_, e, _⟩ := hl; exact Heap.lt_size e
  have hln : its.length = bs.length := by have := r'.length; simpa using this.symm
  refine call_any_walk (wpAny_pyIter_list hl ?_)
  refine ⟨s.heap.objs.size, [s.heap.objs.size, p], [s.heap.objs.size], its.toArray.size, _, _, fun i => (bs[i]?).getD false, rfl, Walks.list (A := X.A.in1) (I.ok.hd hc) _ p (Nat.ne_of_lt hlt) its.toArray,
    ⟨⟨_, Heap.get?_push_size _ rfl, rfl, rfl⟩, hl.push _⟩, fun i v s' Q' E' hP hQ => ?_, fun h' tk hk => ?_⟩
  · have hv : its[i]? = some v := by simpa using hP
    have hib : i < bs.length := by rw [← hln]; exact (List.getElem?_eq_some_iff.mp hv).1
    obtain ⟨u, hu, ru⟩ := r'.get (show (bs.map V.bl)[i]? = some (.bl bs[i]) by rw [List.getElem?_map, List.getElem?_eq_getElem hib]; rfl)
    rw [hv] at hu
    cases hu
    obtain rfl : v = Value.bool bs[i] := ru
    simp only [List.getElem?_eq_getElem hib, Option.getD_some] at hQ
    exact wpAny_truthy_bool hQ
  · refine ⟨.bl (bs.any id), H, I.kept (kept_it hk), ?_, q⟩
    show Value.bool _ = Value.bool _
    rw [List.size_toArray, hln, PyProof.Rows.LSm.range_any]
end
end L2
/-! ### list(range(a, b)) -/
namespace L2
open PySem PySem.Spec PyProof.Rows
section
variable {X : Cx} {a b : Expr} {ta : TA} {p1 p2 p3 pos : Pos}
end
end L2
/-! ### tuples of ints -/
namespace L2
open PySem PySem.Spec PyProof.Rows
/-- a tuple of ints -/
def tI (xs : List Int) : D := .t (xs.map .i)
theorem iss_ints {H : Hp} : ∀ {xs : List Int} {vs : List V}, Iss H (xs.map .i) vs → vs = xs.map V.int
  | [], vs, h => h
  | x :: xs, vs, h => by
    obtain ⟨u, us, rfl, h1, h2⟩ := h
    rw [of_i h1, iss_ints h2]
    rfl
theorem ints_iss {H : Hp} : ∀ (xs : List Int), Iss H (xs.map .i) (xs.map V.int)
  | [] => rfl
  | x :: xs => ⟨_, _, rfl, is_i, ints_iss xs⟩
theorem of_tI {H : Hp} {xs : List Int} {v : V} (h : Is H (tI xs) v) : ∃ a, v = .ref a ∧ H a = some (.tup (xs.map V.int)) := by
  obtain ⟨a, vs, rfl, ha, hi⟩ := of_t h
  rw [iss_ints hi] at ha
  exact ⟨a, rfl, ha⟩
theorem is_tI {H : Hp} {xs : List Int} {a : Addr} (h : H a = some (.tup (xs.map V.int))) : Is H (tI xs) (.ref a) := is_t h (ints_iss xs)
end L2
/-! ### sorted(xs) of a list of tuples of ints, fewer than 64: some order of them, by the kit's own tree of the sort -/
namespace L2
open PySem PySem.Spec PyProof.Rows PySem.W
section
variable {n : Nat}
/-- the places in some order -/
def Ord (n : Nat) (p : Array Nat) : Prop := p.Perm (List.range n).toArray
theorem Ord.size {p : Array Nat} (h : Ord n p) : p.size = n := by
  have := (Array.perm_iff_toList_perm.mp h).length_eq
  simpa using this
theorem Ord.lt {p : Array Nat} (h : Ord n p) {i : Nat} (hi : i ∈ p.toList) : i < n := by
  have := (Array.perm_iff_toList_perm.mp h).mem_iff.mp hi
  simpa using this
variable (hn : 0 < n)
include hn
end
section
variable {prog : Program} {w : World} {A : Around} {E : Value → Shared → Prop} {s : Shared}
def valAt (vs : List Value) (i : Nat) : Keyed := (vs.getD i .none, vs.getD i .none)
abbrev sortIn (h : Heap) (a : Addr) (vs : List Value) : Heap := ((h.update a (Obj.mapSeq fun _ => (#[] : Array Value))).push (seqObj "tuple" vs.toArray 0)).push (seqObj "list" #[] 0)
theorem valAt_range (vs : List Value) : (List.toArray (List.range vs.length)).map (valAt vs) = vs.toArray.zip vs.toArray := by
  refine Array.ext (by simp) fun i h1 h2 => ?_
  have hi : i < vs.length := by simpa using h1
  simp [valAt, hi]
abbrev sortedIn (h : Heap) (vs : List Value) : Heap := sortIn (((h.push (seqObj "list" #[] 0)).update h.objs.size (Obj.mapSeq (· ++ vs.toArray))).push (seqObj "list" vs.toArray 0)) (h.objs.size + 1) vs
theorem sortedIn_old {h : Heap} {vs : List Value} {b : Addr} {o : Obj} (hb : h.get? b = some o) : (sortedIn h vs).get? b = some o := by
  have hlt : b < h.objs.size := Heap.lt_size hb
  have sz : (((h.push (seqObj "list" #[] 0)).update h.objs.size (Obj.mapSeq (· ++ vs.toArray))).push (seqObj "list" vs.toArray 0)).objs.size = h.objs.size + 2 := by rw [size_push', Heap.size_update, size_push']
  have n0 : b ≠ h.objs.size := Nat.ne_of_lt hlt
  have n1 : b ≠ h.objs.size + 1 := Nat.ne_of_lt (Nat.lt_succ_of_lt hlt)
  have n2 : b ≠ h.objs.size + 2 := Nat.ne_of_lt (Nat.lt_succ_of_lt (Nat.lt_succ_of_lt hlt))
  have n3 : b ≠ h.objs.size + 2 + 1 := Nat.ne_of_lt (Nat.lt_succ_of_lt (Nat.lt_succ_of_lt (Nat.lt_succ_of_lt hlt)))
  rw [Heap.get?_push_ne _ _ _ (by rw [size_push', Heap.size_update, sz]; exact n3), Heap.get?_push_ne _ _ _ (by rw [Heap.size_update, sz]; exact n2), Heap.get?_update_ne _ _ _ _ n1,
    Heap.get?_push_ne _ _ _ (by rw [Heap.size_update, size_push']; exact n1), Heap.get?_update_ne _ _ _ _ n0, Heap.get?_push_ne _ _ _ n0]
  exact hb
end
/-! fewer than two items -/
section
variable {prog : Program} {w : World} {A : Around} {E : Value → Shared → Prop} {s : Shared}
theorem sort_few {a : Addr} {vs : List Value} {n : Nat} {P : PySem.Fin → Shared → Prop} (ho : s.heap.get? a = some (seqObj "list" vs.toArray n)) (h2 : vs.length < 2)
    (h : P (.done (.ret .none)) { s with heap := sortedHeap s.heap a vs vs.toArray }) : wpAny (model prog w) A (Builtin.«list.sort» ⟨[.ref a], []⟩) P E s := by
  rw [list_sort_plain]
  have ha : a < s.heap.objs.size := Heap.lt_size ho
  refine wpAny_bind (listItems_at ho rfl ?_)
  refine wpAny_bind (listUpdate_at ho rfl ?_ (by rw [List.size_toArray, sizeLine_eq]; omega) (Nat.zero_le _))
  obtain ⟨e1, ho1⟩ : ∃ e1, (s.heap.update a (Obj.mapSeq fun _ => (#[] : Array Value))).get? a = some (seqObj "list" #[] e1) := ⟨_, get?_update_seq ho (fun _ => #[])⟩
  refine wpAny_bind (seqEpoch_at ho1 rfl ?_)
  refine wpAny_bind (wpAny_newTuple ?_ (by show vs.length ≤ _; rw [sizeLine_eq]; omega))
  refine wpAny_bind (wpAny_newList ?_ (Nat.zero_le _))
  refine wpAny_holding ?_
  have ho6 : (sortIn s.heap a vs).get? a = some (seqObj "list" #[] e1) := by
    rw [Heap.get?_push_ne _ _ _ (by rw [size_push', Heap.size_update]; exact Nat.ne_of_lt (Nat.lt_succ_of_lt ha)), Heap.get?_push_ne _ _ _ (by rw [Heap.size_update]; exact Nat.ne_of_lt ha)]
    exact ho1
  show wpAny (model prog w) A _ P E { s with heap := sortIn s.heap a vs }
  dsimp only
  have hn2 : vs.toArray.size < 2 := by rw [List.size_toArray]; omega
  rw [if_pos hn2, if_pos hn2]
  refine wpAny_bind (wpAny_pure ?_)
  rw [StateT.run_pure]
  refine wpAny_bind (wpAny_pure ?_)
  dsimp only
  have eo : (vs.toArray.zip vs.toArray).map (·.2) = vs.toArray := by
    refine Array.ext (by simp) fun i h1 h2 => ?_
    simp
  refine wpAny_bind (seqEpoch_at ho6 rfl ?_)
  rw [eo]
  refine wpAny_bind (listUpdate_at ho6 rfl ?_ (Nat.zero_le _) (by rw [List.size_toArray, sizeLine_eq]; omega))
  simp only [bne_self_eq_false, Bool.false_eq_true, if_false]
  exact wpAny_pure h
theorem sorted_few {l : Addr} {vs : List Value} {Q : Value → Shared → Prop} (hl : s.heap.IsList l vs.toArray) (h2 : vs.length < 2)
    (h : Q (.ref (s.heap.objs.size + 1)) { s with heap := sortedAll s.heap vs vs.toArray }) : wpAny (model prog w) A (call (.builtin "sorted") [.ref l]) Q E s := by
  refine Calls.call_function_entry kind_sorted plain_sorted entry_sorted (args_sorted1 _) ?_
  unfold Builtin.«sorted»
  refine wpAny_bind (m := checkCount "sorted" 1 1 _) (wpAny_pure ?_)
  refine wpAny_bind (collect_list hl ?_ (by rw [sizeLine_eq]; omega))
  refine wpAny_bind (wpAny_newList ?_ (by rw [sizeLine_eq]; omega))
  have hsz : ((s.heap.push (seqObj "list" #[] 0)).update s.heap.objs.size (Obj.mapSeq (· ++ vs.toArray))).objs.size = s.heap.objs.size + 1 := by
    rw [Heap.size_update, size_push']
  have hoL : (((s.heap.push (seqObj "list" #[] 0)).update s.heap.objs.size (Obj.mapSeq (· ++ vs.toArray))).push (seqObj "list" vs.toArray 0)).get? (s.heap.objs.size + 1) = some (seqObj "list" vs.toArray 0) := by
    rw [← hsz]; exact Heap.get?_push_size _ rfl
  show wpAny _ _ _ _ _ { s with heap := ((s.heap.push (seqObj "list" #[] 0)).update s.heap.objs.size (Obj.mapSeq (· ++ vs.toArray))).push (seqObj "list" vs.toArray 0) }
  rw [hsz]
  refine wpAny_bind (wpAny_holding (wpAny_call_entry slot_list_sort ⟨_, hoL, rfl⟩ entry_list_sort (sort_few (s := { s with heap := ((s.heap.push (seqObj "list" #[] 0)).update s.heap.objs.size (Obj.mapSeq (· ++ vs.toArray))).push (seqObj "list" vs.toArray 0) }) hoL h2 ⟨_, rfl, ?_⟩) (args_list_sort _)))
  exact wpAny_pure ⟨_, rfl, h⟩
end
section
variable {X : Cx}
theorem vals_getD {rs : List V} {its : List Value} (r : Vals rs its) : ∀ (l : List Nat), (∀ i ∈ l, i < rs.length) → Vals (l.map fun i => rs.getD i .non) (l.map fun i => its.getD i .none)
  | [], _ => .nil
  | i :: l, h => by
    have hi : i < rs.length := h i (by simp)
    have e : rs[i]? = some rs[i] := List.getElem?_eq_getElem hi
    obtain ⟨u, hu, ru⟩ := r.get e
    rw [List.map_cons, List.map_cons]
    refine .cons ?_ (vals_getD r l fun j hj => h j (by simp [hj]))
    rw [List.getD, List.getD, e, hu]
    exact ru
end
/-! the question of two tuples of ints -/
def lexI (fin : Bool) : List Int → List Int → Bool
  | x :: xs, y :: ys => if x = y then lexI fin xs ys else decide (x < y)
  | _, _ => fin
def ltI (xs ys : List Int) : Bool := lexI (decide (xs.length < ys.length)) xs ys
section
variable {prog : Program} {w : World} {A : Around} {E : Value → Shared → Prop} {s : Shared}
theorem lex_ints {fin : Bool} {Q : Bool → Shared → Prop} : ∀ {xs ys : List Int} {is js : List Value} (i : Nat), Vals (xs.map V.int) is → Vals (ys.map V.int) js → Q (lexI fin xs ys) s → KatLex prog w A true fin Q (is.zip js) i s
  | [], ys, is, js, i, h1, h2, q => by
    cases h1
    rw [List.zip_nil_left]
    exact kat_nil (by cases ys <;> exact q)
  | x :: xs, [], is, js, i, h1, h2, q => by
    cases h2
    rw [List.zip_nil_right]
    exact kat_nil q
  | x :: xs, y :: ys, is, js, i, h1, h2, q => by
    cases h1 with
    | cons r1 h1 =>
    cases h2 with
    | cons r2 h2 =>
    obtain ⟨t, rfl⟩ := r1
    obtain ⟨t', rfl⟩ := r2
    rw [List.zip_cons_cons]
    refine kat_cons ?_
    refine wpAny_eqBool_int ?_
    unfold lexI at q
    by_cases e : x = y
    · rw [if_pos e] at q
      rw [show (x == y) = true by simp [e]]
      exact kat_yes (lex_ints (i + 1) h1 h2 q)
    · rw [if_neg e] at q
      rw [show (x == y) = false by simp [e]]
      refine kat_no ?_
      cases hb : (true && i == 0) with
      | true => exact oneLt_int q
      | false => exact kat_one _ _ (SeqAt.LtAt.int_int x t y t' prog w _ _ q)
end
theorem map_getD (xss : List (List Int)) : (List.range xss.length).map (fun i => xss.getD i []) = xss := by
  refine List.ext_getElem (by simp) fun i h1 h2 => ?_
  simp [List.getD, h2]
theorem iss_getD {H : Hp} {xss : List (List Int)} {rs : List V} (h : Iss H (xss.map tI) rs) : ∀ (l : List Nat), (∀ i ∈ l, i < xss.length) → Iss H ((l.map fun i => xss.getD i []).map tI) (l.map fun i => rs.getD i .non)
  | [], _ => rfl
  | i :: l, hl => by
    have hi : i < xss.length := hl i (by simp)
    have hr : i < rs.length := by rw [h.length, List.length_map]; exact hi
    refine ⟨_, _, rfl, ?_, iss_getD h l fun j hj => hl j (by simp [hj])⟩
    obtain ⟨d, hd, h1⟩ := h.of_get (List.getElem?_eq_getElem hr)
    rw [List.getElem?_map, List.getElem?_eq_getElem hi] at hd
    cases hd
    show Is H (tI (xss.getD i [])) (rs.getD i .non)
    rw [List.getD_eq_getElem?_getD, List.getD_eq_getElem?_getD, List.getElem?_eq_getElem hi, List.getElem?_eq_getElem hr]
    exact h1
section
variable {X : Cx} {pins : List (Addr × Obj)} {σ : St} {H : Hp} {s : Shared}
theorem kat_tups (I : Inv X pins σ H s) : ∀ {xss : List (List Int)} {rs : List V} {its : List Value}, Iss H (xss.map tI) rs → Vals rs its → (∀ xs ∈ xss, xs ≠ []) → ∃ fs : List Value, KatTups s.heap its fs ∧ fs.length = its.length ∧ ∀ f ∈ fs, ∃ z t, f = Value.int z t
  | [], rs, its, h, r, _ => by
    obtain rfl : rs = [] := h
    cases r
    exact ⟨[], KatTups.nil, rfl, fun _ h => nomatch h⟩
  | xs :: xss, rs, its, h, r, hne => by
    obtain ⟨u, us, rfl, h1, h2⟩ := h
    cases r with
    | cons r1 r2 =>
    rename_i v its
    obtain ⟨fs, k1, k2, k3⟩ := kat_tups I h2 r2 fun ys hy => hne ys (by simp [hy])
    obtain ⟨a, rfl, ha⟩ := of_tI h1
    obtain rfl : v = Value.ref a := r1
    obtain ⟨is, q1, q2, q3⟩ := I.tuple (SqT.of (K := X.K) ha)
    obtain ⟨o, ho, hc, n, hd⟩ := (show s.heap.IsTuple a is.toArray from q2)
    match xs, hne xs (by simp) with
    | x :: xs', _ =>
    cases q1 with
    | cons q0 q1 =>
    obtain ⟨t, rfl⟩ := q0
    refine ⟨.int x t :: fs, KatTups.cons ho hc hd (by simp) k1, by simp [k2], fun f hf => ?_⟩
    rcases List.mem_cons.mp hf with rfl | hf
    · exact ⟨_, _, rfl⟩
    · exact k3 f hf
theorem key_ints (I : Inv X pins σ H s) {a b : Addr} {xs ys : List Int} (h1 : SqT X.K H a (xs.map V.int)) (h2 : SqT X.K H b (ys.map V.int)) {A : Around} {prog : Program} {w : World} {E : Value → Shared → Prop} {Q : Bool → Shared → Prop} (q : Q (ltI xs ys) s) :
    wpAny (model prog w) A (keyLt' (tuples' true) (.ref a) (.ref b)) Q E s := by
  obtain ⟨is, r1, p1, z1⟩ := I.tuple h1
  obtain ⟨js, r2, p2, z2⟩ := I.tuple h2
  obtain ⟨o1, ho1, hc1, n1, hd1⟩ := (show s.heap.IsTuple a is.toArray from p1)
  obtain ⟨o2, ho2, hc2, n2, hd2⟩ := (show s.heap.IsTuple b js.toArray from p2)
  refine kat_lt ho1 hd1 ho2 hd2 ?_
  have l1 : is.toArray.size = xs.length := by have := r1.length; simp at this ⊢; omega
  have l2 : js.toArray.size = ys.length := by have := r2.length; simp at this ⊢; omega
  rw [l1, l2]
  exact lex_ints 0 r1 r2 q
end
end L2
/-! ### a dict of the module's own, ints by ints, read -/
namespace L2
open PySem PySem.Spec PyProof.Rows
end L2
/-! ### x in xs, xs.index(x), by what == tells of each item -/
namespace L2
open PySem PySem.Spec PyProof.Rows
section
variable {X : Cx} {pins : List (Addr × Obj)} {σ : St} {H : Hp} {s : Shared}
end
section
variable {X : Cx}
end
end L2
/-! ### sorted(xs) of a list of lists, fewer than 64: some order of them; points by < -/
namespace L2
open PySem PySem.Spec PyProof.Rows PySem.W
section
variable {X : Cx}
end
/-! points and lists of points by < -/
section
variable {K : PySem.W.Frag} {H : Hp}
end
end L2
/-! ### sorted, by steps: a pure walk over places tells what the sort does when each question is told -/
set_option hygiene false
local macro_rules | `(tactic| walk_at "bare") => `(tactic| (unfold wpS; wp_delta; wp_delta; wp_delta; refine (show wpS _ _ _ _ _ _ _ from ?_)))
local macro_rules | `(tactic| walk_at "tw") => `(tactic| first
  | with_reducible refine wpS_bind (told_elemP (by assumption) ?_)
  | with_reducible refine wpS_bind (told_ltP (by assumption) (by assumption) (by assumption) ?_)
  | with_reducible refine wpS_bind (told_galP (by assumption) (by assumption) (by assumption) ?_)
  | with_reducible refine wpS_bind (setG_P ?_)
  | rw [if_pos (by assumption)]
  | rw [if_neg (by assumption)]
  | exact wpS_pure (by assumption)
  | dsimp only)
local macro_rules | `(tactic| walk_at "tw_all") => `(tactic| (
  repeat' (first | (rw [Option.bind_eq_some_iff] at hs; obtain ⟨_, _, hs⟩ := hs) | split at hs)
  all_goals
    cases hs
    simp only [Option.map_some, Option.map_none, loDone_map, loLast_map, Array.map_push, Array.map_append, Array.map_extract, Array.size_map, if_true, Bool.false_eq_true, if_false] at hR
    repeat walk_at "tw"))
local macro_rules | `(tactic| walk_at "tw_hi") => `(tactic| (
  repeat' (first | (rw [Option.bind_eq_some_iff] at hs; obtain ⟨_, _, hs⟩ := hs) | split at hs)
  all_goals
    cases hs
    simp only [Option.map_some, Option.map_none, hiDone_map, hiFirst_map, Array.map_push, Array.map_append, Array.map_extract, Array.map_reverse, Array.size_map, if_true, Bool.false_eq_true, if_false] at hR
    repeat walk_at "tw"))
local macro_rules | `(tactic| walk_at "tw_asc") => `(tactic| (
  refine wpS_bind (wpS_iter (γ := Nat) (step := cAsc c _ l) (fun m => (none, m)) (fun _ => sst kd item _ pd g) (fun x m r hs R hR => ?_) hz ?_)
  · obtain ⟨q, hq1, rfl⟩ := Option.map_eq_some_iff.mp hs
    refine wpS_bind (told_at hc hq1 ?_)
    cases q <;> exact wpS_pure hR))
local macro_rules | `(tactic| walk_at "tw_down") => `(tactic| (
  refine wpS_bind (wpS_lift (wpAny_rule ⟨rfl, ?_⟩))
  obtain ⟨t, h1, h2⟩ := Option.bind_eq_some_iff.mp h
  refine wpS_bind (wpS_iter (γ := Array Nat × Nat × Nat) (step := cDesc c l) (fun t => (none, t.2.1, t.2.2)) (fun t => sst kd item t.1 pd g) (fun x t r hs R hR => ?_) h1 ?_)
  · unfold cDesc at hs
    obtain ⟨q, hq1, hs⟩ := Option.bind_eq_some_iff.mp hs
    refine wpS_bind (told_at hc hq1 ?_)
    cases q with
    | true =>
      dsimp only
      rw [if_pos rfl] at hs ⊢
      split at hs
      · rename_i z
        rw [if_pos z]
        cases hs
        exact wpS_bind (told_rev (wpS_pure hR))
      · rename_i z
        rw [if_neg z]
        cases hs
        exact wpS_pure hR
    | false =>
      dsimp only
      rw [if_neg (by simp)] at hs ⊢
      obtain ⟨r, hr1, hs⟩ := Option.bind_eq_some_iff.mp hs
      refine wpS_bind (told_at hc hr1 ?_)
      cases r <;> (cases hs; exact wpS_pure hR)
  · dsimp only
    split at h2
    · rename_i z
      rw [if_pos z]
      refine wpS_bind (told_rev ?_)
      refine wpS_bind (told_rev ?_)
      obtain ⟨k2, h3, h4⟩ := Option.map_eq_some_iff.mp h2
      cases h4
      have hz := h3
      walk_at "tw_asc"
      exact wpS_pure hq
    · rename_i z
      rw [if_neg z]
      refine wpS_bind (told_rev ?_)
      obtain ⟨k2, h3, h4⟩ := Option.map_eq_some_iff.mp h2
      cases h4
      have hz := h3
      walk_at "tw_asc"
      exact wpS_pure hq))
local macro_rules | `(tactic| walk_at "tw_push") => `(tactic| (
  unfold sPush at hs
  refine wpS_bind (wpS_get ?_)
  try dsimp only at hs ⊢
  split at hs
  · rename_i u hu
    rw [hu]
    try dsimp only
    obtain ⟨t', ht, hs⟩ := Option.bind_eq_some_iff.mp hs
    cases hs
    refine wpS_bind (wpS_iter (γ := Ts) (step := sCol c _) (fun _ => (none, ())) (fun t => sst kd item t.1 t.2.1 t.2.2) (fun x t r hs R hR => ?_) (a := 0) ht ?_)
    · unfold sCol at hs
      refine wpS_bind (wpS_get ?_)
      try dsimp only
      split at hs
      · rename_i v hv
        rw [hv]
        try dsimp only
        split at hs
        · rename_i z
          rw [if_pos z]
          cases hs
          exact wpS_pure hR
        · rename_i z
          rw [if_neg z]
          obtain ⟨t', hm, hs⟩ := Option.bind_eq_some_iff.mp hs
          cases hs
          exact wpS_bind (told_mAt hc hm (wpS_pure hR))
      · rename_i hv
        rw [hv]
        cases hs
        exact wpS_pure hR
    · try dsimp only
      exact wpS_bind (wpS_modify (wpS_bind (wpS_modify (wpS_pure hR))))
  · rename_i hu
    rw [hu]
    cases hs
    exact wpS_bind (wpS_modify (wpS_pure hR))))
set_option hygiene true
namespace L2
open PySem PyProof.Rows
def gallop' : Bool → Keyed → Array Keyed → Nat → Nat → Nat → StateT SortSt Sem (Option Nat) := sortPriv% PySem.Builtin.gallop
def mergeLo' : Array Keyed → Array Keyed → StateT SortSt Sem (Array Keyed) := sortPriv% PySem.Builtin.mergeLo
def mergeHi' : Array Keyed → Array Keyed → StateT SortSt Sem (Array Keyed) := sortPriv% PySem.Builtin.mergeHi
def setMinGallop' : Nat → StateT SortSt Sem Unit := sortPriv% PySem.Builtin.setMinGallop
/-- a loop, by steps -/
def iter {γ : Type} (step : γ → Option (Bool × γ)) : Nat → γ → Option γ
  | 0, g => some g
  | f + 1, g => (step g).bind fun r => if r.1 = true then some r.2 else iter step f r.2
section
variable {M : Model} {A : Around} {E : Value → Shared → Prop} {s : Shared} {σ : Type}
theorem wpS_iter {β γ : Type} {step : γ → Option (Bool × γ)} (φ : γ → β) (τ : γ → σ) {f : Nat → β → StateT σ Sem (ForInStep β)} {Q : β → σ → Prop}
    (hs : ∀ x g r, step g = some r → ∀ R : ForInStep β → σ → Prop, R (if r.1 = true then .done (φ r.2) else .yield (φ r.2)) (τ r.2) → wpS M A E s (f x (φ g)) R (τ g))
    {a b : Nat} {g g' : γ} (h : iter step (b - a) g = some g') (hq : Q (φ g') (τ g')) : wpS M A E s (forIn [a:b] (φ g) f) Q (τ g) := by
  rw [Std.Legacy.Range.forIn_eq_forIn_range']
  have hsz : ([a:b] : Std.Legacy.Range).size = b - a := by simp [Std.Legacy.Range.size]
  show wpS M A E s (forIn (List.range' a ([a:b] : Std.Legacy.Range).size 1) (φ g) f) Q (τ g)
  rw [hsz]
  have go : ∀ (k : Nat) (l : List Nat) (g : γ), l.length = k → iter step k g = some g' → wpS M A E s (forIn l (φ g) f) Q (τ g) := by
    intro k
    induction k with
    | zero =>
      intro l g hl h
      cases l with
      | nil => rw [List.forIn_nil]; cases h; exact wpS_pure hq
      | cons _ _ => simp at hl
    | succ k ih =>
      intro l g hl h
      cases l with
      | nil => simp at hl
      | cons x l =>
        rw [List.forIn_cons]
        unfold iter at h
        obtain ⟨r, hr, h⟩ := Option.bind_eq_some_iff.mp h
        refine wpS_bind (hs x g r hr _ ?_)
        by_cases hd : r.1 = true
        · rw [if_pos hd] at h ⊢
          cases h
          exact wpS_pure hq
        · rw [if_neg hd] at h ⊢
          exact ih l r.2 (by simpa using hl) h
  exact go _ _ g (by simp) h
end
section
variable {prog : Program} {w : World} {A : Around} {E : Value → Shared → Prop} {s : Shared} {item : Nat → Keyed} {c : Nat → Nat → Option Bool} {kd : SortKind}
/-- the comparisons, told by c -/
def Told (kd : SortKind) (prog : Program) (w : World) (A : Around) (s : Shared) (item : Nat → Keyed) (c : Nat → Nat → Option Bool) : Prop :=
  ∀ i j b, c i j = some b → ∀ Q : Bool → Shared → Prop, Q b s → wpAny (model prog w) A (keyLt' kd (item i).1 (item j).1) Q (fun _ _ => False) s
theorem told_lt (hc : Told kd prog w A s item c) {st : SortSt} (hk : kindOf st = kd) {i j : Nat} {b : Bool} (h : c i j = some b) {Q : Option Bool → SortSt → Prop} (hq : Q (some b) st) : wpS (model prog w) A E s (lt' (item i) (item j)) Q st := by
  rw [lt'_eq]
  refine wpS_bind (wpS_get ?_)
  rw [hk]
  refine wpS_bind (wpS_lift (wpAny_attempt (wpAny_mono (hc i j b h _ ⟨rfl, wpS_pure hq⟩) (fun _ _ h => h) fun _ _ hF => hF.elim)))
theorem told_elem {st : SortSt} {arr : Array Nat} {i x : Nat} (h : arr[i]? = some x) {Q : Keyed → SortSt → Prop} (hq : Q (item x) st) : wpS (model prog w) A E s (elem' (arr.map item) i) Q st := by
  rw [elem'_eq, Array.getElem?_map, h]
  exact wpS_pure hq
def gBey (c : Nat → Nat → Option Bool) (left : Bool) (key : Nat) (arr : Array Nat) (i : Nat) : Option Bool := arr[i]?.bind fun x => if left = true then c x key else (c key x).map (!·)
def gUp (b : Nat → Option Bool) (m : Nat) (g : Nat × Nat) : Option (Bool × Nat × Nat) := if g.2 ≥ m then some (true, g) else (b g.2).map fun y => if y = true then (false, g.2, 2 * g.2 + 1) else (true, g)
def gDn (b : Nat → Option Bool) (m : Nat) (g : Nat × Nat) : Option (Bool × Nat × Nat) := if g.2 ≥ m then some (true, g) else (b g.2).map fun y => if y = true then (true, g) else (false, g.2, 2 * g.2 + 1)
def gBis (b : Nat → Option Bool) (g : Nat × Nat) : Option (Bool × Nat × Nat) :=
  if g.1 ≥ g.2 then some (true, g) else (b (g.1 + (g.2 - g.1) / 2)).map fun y => if y = true then (false, g.1 + (g.2 - g.1) / 2 + 1, g.2) else (false, g.1, g.1 + (g.2 - g.1) / 2)
def gal (c : Nat → Nat → Option Bool) (left : Bool) (key : Nat) (arr : Array Nat) (base n hint : Nat) : Option Nat :=
  (gBey c left key arr (base + hint)).bind fun right =>
    (if right = true then (iter (gUp (fun o => gBey c left key arr (base + (hint + o))) (n - hint)) n (0, 1)).map fun g => (hint + g.1 + 1, hint + min g.2 (n - hint))
      else (iter (gDn (fun o => gBey c left key arr (base + (hint - o))) (hint + 1)) n (0, 1)).map fun g => (hint + 1 - min g.2 (hint + 1), hint - g.1)).bind fun lh =>
      (iter (gBis fun i => gBey c left key arr (base + i)) n lh).map (·.2)
theorem told_bey (hc : Told kd prog w A s item c) {st : SortSt} (hk : kindOf st = kd) {left : Bool} {key : Nat} {arr : Array Nat} {i : Nat} {b : Bool} (h : gBey c left key arr i = some b) {Q : Option Bool → SortSt → Prop} (hq : Q (some b) st) :
    wpS (model prog w) A E s (do
      let x ← elem' (arr.map item) i
      if left = true then lt' x (item key) else do
        let y ← lt' (item key) x
        pure (y.map (!·))) Q st := by
  obtain ⟨x, hx, h⟩ := Option.bind_eq_some_iff.mp h
  refine wpS_bind (told_elem hx ?_)
  by_cases hl : left = true
  · rw [if_pos hl] at h ⊢
    exact told_lt hc hk h hq
  · rw [if_neg hl] at h ⊢
    obtain ⟨y, hy, rfl⟩ := Option.map_eq_some_iff.mp h
    exact wpS_bind (told_lt hc hk hy (wpS_pure hq))
theorem told_gal (hc : Told kd prog w A s item c) {st : SortSt} (hk : kindOf st = kd) {left : Bool} {key : Nat} {arr : Array Nat} {base n hint k : Nat} (h : gal c left key arr base n hint = some k) {Q : Option Nat → SortSt → Prop} (hq : Q (some k) st) :
    wpS (model prog w) A E s (gallop' left (item key) (arr.map item) base n hint) Q st := by
  walk_at "bare"
  dsimp only
  obtain ⟨right, hr, h⟩ := Option.bind_eq_some_iff.mp h
  obtain ⟨lh, h1, h2⟩ := Option.bind_eq_some_iff.mp h
  obtain ⟨lh2, h3, rfl⟩ := Option.map_eq_some_iff.mp h2
  refine wpS_bind (told_bey hc hk hr ?_)
  dsimp only
  by_cases e : right = true
  · rw [if_pos e] at h1 ⊢
    obtain ⟨g0, h0, rfl⟩ := Option.map_eq_some_iff.mp h1
    refine wpS_bind (wpS_iter (γ := Nat × Nat) (step := gUp (fun o => gBey c left key arr (base + (hint + o))) (n - hint)) (fun g => (none, g.1, g.2)) (fun _ => st) (fun x g r hs R hR => ?_) (a := 0) (b := n) (g := (0, 1)) (g' := g0) h0 ?_)
    · unfold gUp at hs
      dsimp only
      by_cases e : g.2 ≥ n - hint
      · rw [if_pos e] at hs ⊢
        cases hs
        exact wpS_pure hR
      · rw [if_neg e] at hs ⊢
        obtain ⟨y, hy, rfl⟩ := Option.map_eq_some_iff.mp hs
        refine wpS_bind (told_bey hc hk hy ?_)
        cases y <;> exact wpS_pure hR
    · dsimp only
      refine wpS_bind (wpS_iter (γ := Nat × Nat) (step := gBis fun i => gBey c left key arr (base + i)) (fun g => (none, g.1, g.2)) (fun _ => st) (fun x g r hs R hR => ?_) (a := 0) (b := n) (g := (hint + g0.1 + 1, hint + min g0.2 (n - hint))) (g' := lh2) h3 (wpS_pure hq))
      unfold gBis at hs
      dsimp only
      by_cases e : g.1 ≥ g.2
      · rw [if_pos e] at hs ⊢
        cases hs
        exact wpS_pure hR
      · rw [if_neg e] at hs ⊢
        obtain ⟨y, hy, rfl⟩ := Option.map_eq_some_iff.mp hs
        refine wpS_bind (told_bey hc hk hy ?_)
        cases y <;> exact wpS_pure hR
  · rw [if_neg e] at h1 ⊢
    obtain ⟨g0, h0, rfl⟩ := Option.map_eq_some_iff.mp h1
    refine wpS_bind (wpS_iter (γ := Nat × Nat) (step := gDn (fun o => gBey c left key arr (base + (hint - o))) (hint + 1)) (fun g => (none, g.1, g.2)) (fun _ => st) (fun x g r hs R hR => ?_) (a := 0) (b := n) (g := (0, 1)) (g' := g0) h0 ?_)
    · unfold gDn at hs
      dsimp only
      by_cases e : g.2 ≥ hint + 1
      · rw [if_pos e] at hs ⊢
        cases hs
        exact wpS_pure hR
      · rw [if_neg e] at hs ⊢
        obtain ⟨y, hy, rfl⟩ := Option.map_eq_some_iff.mp hs
        refine wpS_bind (told_bey hc hk hy ?_)
        cases y <;> exact wpS_pure hR
    · dsimp only
      refine wpS_bind (wpS_iter (γ := Nat × Nat) (step := gBis fun i => gBey c left key arr (base + i)) (fun g => (none, g.1, g.2)) (fun _ => st) (fun x g r hs R hR => ?_) (a := 0) (b := n) (g := (hint + 1 - min g0.2 (hint + 1), hint - g0.1)) (g' := lh2) h3 (wpS_pure hq))
      unfold gBis at hs
      dsimp only
      by_cases e : g.1 ≥ g.2
      · rw [if_pos e] at hs ⊢
        cases hs
        exact wpS_pure hR
      · rw [if_neg e] at hs ⊢
        obtain ⟨y, hy, rfl⟩ := Option.map_eq_some_iff.mp hs
        refine wpS_bind (told_bey hc hk hy ?_)
        cases y <;> exact wpS_pure hR
/-! the merge from the left -/
def loDone (a b out : Array Nat) (ia ib : Nat) : Array Nat := out ++ a.extract ia a.size ++ b.extract ib b.size
def loLast (a b out : Array Nat) (ia ib : Nat) : Array Nat := out ++ b.extract ib b.size ++ a.extract ia a.size
abbrev G1 := Option (Array Nat) × Array Nat × Nat × Nat × Nat × Nat
abbrev G3 := (Option (Array Nat) × Array Nat × Nat × Nat × Nat × Nat × Nat) × Nat
abbrev G0 := (Option (Array Nat) × Array Nat × Nat × Nat × Nat) × Nat
def lo1 (c : Nat → Nat → Option Bool) (a b : Array Nat) (mg : Nat) (g : G1) : Option (Bool × G1) :=
  b[g.2.2.2.1]?.bind fun y => a[g.2.2.1]?.bind fun x => (c y x).bind fun q =>
    if q = true then
      if (g.2.2.2.1 + 1 == b.size) = true then some (true, some (loDone a b (g.2.1.push y) g.2.2.1 (g.2.2.2.1 + 1)), g.2.1.push y, g.2.2.1, g.2.2.2.1 + 1, 0, g.2.2.2.2.2 + 1)
      else if g.2.2.2.2.2 + 1 ≥ mg then some (true, none, g.2.1.push y, g.2.2.1, g.2.2.2.1 + 1, 0, g.2.2.2.2.2 + 1)
      else some (false, none, g.2.1.push y, g.2.2.1, g.2.2.2.1 + 1, 0, g.2.2.2.2.2 + 1)
    else
      if (g.2.2.1 + 1 + 1 == a.size) = true then some (true, some (loLast a b (g.2.1.push x) (g.2.2.1 + 1) g.2.2.2.1), g.2.1.push x, g.2.2.1 + 1, g.2.2.2.1, g.2.2.2.2.1 + 1, 0)
      else if g.2.2.2.2.1 + 1 ≥ mg then some (true, none, g.2.1.push x, g.2.2.1 + 1, g.2.2.2.1, g.2.2.2.2.1 + 1, 0)
      else some (false, none, g.2.1.push x, g.2.2.1 + 1, g.2.2.2.1, g.2.2.2.2.1 + 1, 0)
/-- behind the second search -/
def lo3c (a b out : Array Nat) (x ia ib mg k k2 : Nat) : Option (Bool × G3) :=
    if (ia + 1 + 1 == a.size) = true then some (true, (some (loLast a b (out.push x) (ia + 1) ib), out.push x, ia + 1, ib, mg, k, k2), mg)
    else if (decide (k < 7) && decide (k2 < 7)) = true then some (true, (none, out.push x, ia + 1, ib, mg, k, k2), mg)
    else some (false, (none, out.push x, ia + 1, ib, mg, k, k2), mg)
/-- behind the first search -/
def lo3b (c : Nat → Nat → Option Bool) (a b out : Array Nat) (y ia ib mg k bc : Nat) : Option (Bool × G3) :=
    if (ib + 1 == b.size) = true then some (true, (some (loDone a b (out.push y) ia (ib + 1)), out.push y, ia, ib + 1, mg, k, bc), mg)
    else a[ia]?.bind fun x => (gal c true x b (ib + 1) (b.size - (ib + 1)) 0).bind fun k2 =>
      if k2 > 0 then
        if (ib + 1 + k2 == b.size) = true then some (true, (some (loDone a b (out.push y ++ b.extract (ib + 1) (ib + 1 + k2)) ia (ib + 1 + k2)), out.push y ++ b.extract (ib + 1) (ib + 1 + k2), ia, ib + 1 + k2, mg, k, k2), mg)
        else lo3c a b (out.push y ++ b.extract (ib + 1) (ib + 1 + k2)) x ia (ib + 1 + k2) mg k k2
      else lo3c a b (out.push y) x ia (ib + 1) mg k k2
def lo3a (c : Nat → Nat → Option Bool) (a b out : Array Nat) (ia ib mg bc : Nat) : Option (Bool × G3) :=
  b[ib]?.bind fun y => (gal c false y a ia (a.size - ia) 0).bind fun k =>
    if k > 0 then
      if (ia + k + 1 == a.size) = true then some (true, (some (loLast a b (out ++ a.extract ia (ia + k)) (ia + k) ib), out ++ a.extract ia (ia + k), ia + k, ib, mg, k, bc), mg)
      else if (ia + k == a.size) = true then some (true, (some (loDone a b (out ++ a.extract ia (ia + k)) (ia + k) ib), out ++ a.extract ia (ia + k), ia + k, ib, mg, k, bc), mg)
      else lo3b c a b (out ++ a.extract ia (ia + k)) y (ia + k) ib mg k bc
    else lo3b c a b out y ia ib mg k bc
def lo3 (c : Nat → Nat → Option Bool) (a b : Array Nat) (g : G3) : Option (Bool × G3) :=
  if g.1.2.2.2.2.1 > 1 then lo3a c a b g.1.2.1 g.1.2.2.1 g.1.2.2.2.1 (g.1.2.2.2.2.1 - 1) g.1.2.2.2.2.2.2
  else lo3a c a b g.1.2.1 g.1.2.2.1 g.1.2.2.2.1 g.1.2.2.2.2.1 g.1.2.2.2.2.2.2
def lo0 (c : Nat → Nat → Option Bool) (a b : Array Nat) (g : G0) : Option (Bool × G0) :=
  (iter (lo1 c a b g.1.2.2.2.2) (a.size + b.size) (none, g.1.2.1, g.1.2.2.1, g.1.2.2.2.1, 0, 0)).bind fun t =>
    match t.1 with
    | some r => some (true, (some r, t.2.1, t.2.2.1, t.2.2.2.1, g.1.2.2.2.2), g.2)
    | none => (iter (lo3 c a b) (a.size + b.size) ((none, t.2.1, t.2.2.1, t.2.2.2.1, g.1.2.2.2.2 + 1, t.2.2.2.2.1, t.2.2.2.2.2), g.2)).map fun u =>
      match u.1.1 with
      | some r => (true, (some r, u.1.2.1, u.1.2.2.1, u.1.2.2.2.1, u.1.2.2.2.2.1), u.2)
      | none => (false, (none, u.1.2.1, u.1.2.2.1, u.1.2.2.2.1, u.1.2.2.2.2.1 + 1), u.1.2.2.2.2.1 + 1)
def mLo (c : Nat → Nat → Option Bool) (a b : Array Nat) (sg : Nat) : Option (Array Nat × Nat) :=
  b[0]?.bind fun y =>
    if (1 == b.size) = true then some (loDone a b #[y] 0 1, sg)
    else if (0 + 1 == a.size) = true then some (loLast a b #[y] 0 1, sg)
    else (iter (lo0 c a b) (a.size + b.size) ((none, #[y], 0, 1, sg), sg)).bind fun t => t.1.1.map fun r => (r, t.2)
abbrev stG (st : SortSt) (g : Nat) : SortSt := SortSt.mk' (kindOf st) (arrOf st) (pendingOf st) g (failedOf st)
theorem loDone_map (a b out : Array Nat) (ia ib : Nat) : (loDone a b out ia ib).map item = out.map item ++ (a.map item).extract ia (a.map item).size ++ (b.map item).extract ib (b.map item).size := by
  unfold loDone
  simp
theorem loLast_map (a b out : Array Nat) (ia ib : Nat) : (loLast a b out ia ib).map item = out.map item ++ (b.map item).extract ib (b.map item).size ++ (a.map item).extract ia (a.map item).size := by
  unfold loLast
  simp
theorem setG_ {st : SortSt} {g : Nat} {Q : PUnit → SortSt → Prop} (h : Q ⟨⟩ (stG st g)) : wpS (model prog w) A E s (setMinGallop' g) Q st := by
  walk_at "bare"
  exact wpS_modify h
theorem told_elemP {st : SortSt} {arr : Array Nat} {i x : Nat} (h : arr[i]? = some x) {Q : Keyed → SortSt → Prop} (hq : Q (item x) st) : wpS (model prog w) A E s ((sortPriv% PySem.Builtin.elem) (arr.map item) i) Q st := told_elem h hq
theorem told_ltP (hc : Told kd prog w A s item c) {st : SortSt} (hk : kindOf st = kd) {i j : Nat} {b : Bool} (h : c i j = some b) {Q : Option Bool → SortSt → Prop} (hq : Q (some b) st) : wpS (model prog w) A E s ((sortPriv% PySem.Builtin.lt) (item i) (item j)) Q st := told_lt hc hk h hq
theorem told_galP (hc : Told kd prog w A s item c) {st : SortSt} (hk : kindOf st = kd) {left : Bool} {key : Nat} {arr : Array Nat} {base n hint k : Nat} (h : gal c left key arr base n hint = some k) {Q : Option Nat → SortSt → Prop} (hq : Q (some k) st) :
    wpS (model prog w) A E s ((sortPriv% PySem.Builtin.gallop) left (item key) (arr.map item) base n hint) Q st := told_gal hc hk h hq
theorem setG_P {st : SortSt} {g : Nat} {Q : PUnit → SortSt → Prop} (h : Q ⟨⟩ (stG st g)) : wpS (model prog w) A E s ((sortPriv% PySem.Builtin.setMinGallop) g) Q st := setG_ h
set_option maxHeartbeats 4000000 in
theorem told_mLo (hc : Told kd prog w A s item c) {st : SortSt} (hk : kindOf st = kd) {a b out : Array Nat} {g : Nat} (h : mLo c a b (gallopOf st) = some (out, g)) {Q : Array Keyed → SortSt → Prop} (hq : Q (out.map item) (stG st g)) :
    wpS (model prog w) A E s (mergeLo' (a.map item) (b.map item)) Q st := by
  obtain ⟨κ, ar, pd, g0, fl⟩ := st
  walk_at "bare"
  dsimp only
  refine wpS_bind (wpS_lift (wpAny_rule ⟨rfl, ?_⟩))
  unfold mLo at h
  obtain ⟨y, hy, h⟩ := Option.bind_eq_some_iff.mp h
  refine wpS_bind (told_elem hy ?_)
  have ey : (#[item y] : Array Keyed) = (#[y] : Array Nat).map item := by simp
  simp only [Array.size_map, ey]
  by_cases e1 : (1 == b.size) = true
  · rw [if_pos e1] at h ⊢
    cases h
    rw [loDone_map] at hq
    simp only [Array.size_map] at hq
    exact wpS_pure hq
  rw [if_neg e1] at h ⊢
  by_cases e2 : (0 + 1 == a.size) = true
  · rw [if_pos e2] at h ⊢
    cases h
    rw [loLast_map] at hq
    simp only [Array.size_map] at hq
    exact wpS_pure hq
  rw [if_neg e2] at h ⊢
  refine wpS_bind (wpS_get ?_)
  obtain ⟨t, h0, h⟩ := Option.bind_eq_some_iff.mp h
  obtain ⟨r, hr, h⟩ := Option.map_eq_some_iff.mp h
  cases h
  refine wpS_bind (wpS_iter (γ := G0) (step := lo0 c a b) (fun g => (g.1.1.map (·.map item), g.1.2.1.map item, g.1.2.2.1, g.1.2.2.2.1, g.1.2.2.2.2)) (fun g => SortSt.mk' κ ar pd g.2 fl) (fun x g r hs R hR => ?_) (a := 0) (b := a.size + b.size) (g := ((none, #[y], 0, 1, g0), g0)) (g' := t) h0 ?_)
  · unfold lo0 at hs
    obtain ⟨t1, h1, hs⟩ := Option.bind_eq_some_iff.mp hs
    dsimp only
    refine wpS_bind (wpS_iter (γ := G1) (step := lo1 c a b g.1.2.2.2.2) (fun g => (g.1.map (·.map item), g.2.1.map item, g.2.2.1, g.2.2.2.1, g.2.2.2.2.1, g.2.2.2.2.2)) (fun _ => SortSt.mk' κ ar pd g.2 fl) (fun x u r hs R hR => ?_) (a := 0) (b := a.size + b.size) (g := (none, g.1.2.1, g.1.2.2.1, g.1.2.2.2.1, 0, 0)) (g' := t1) h1 ?_)
    · unfold lo1 at hs
      obtain ⟨y, hy, hs⟩ := Option.bind_eq_some_iff.mp hs
      obtain ⟨x, hx, hs⟩ := Option.bind_eq_some_iff.mp hs
      obtain ⟨q, hq, hs⟩ := Option.bind_eq_some_iff.mp hs
      dsimp only
      have hk2 : kindOf (SortSt.mk' κ ar pd g.2 fl) = kd := hk
      walk_at "tw_all"
    · dsimp only
      cases e : t1.1 with
      | some r =>
        rw [e] at hs
        cases hs
        exact wpS_pure hR
      | none =>
        rw [e] at hs
        obtain ⟨t3, h3, hs⟩ := Option.map_eq_some_iff.mp hs
        simp only [Option.map_none]
        refine wpS_bind (wpS_lift (wpAny_rule ⟨rfl, ?_⟩))
        refine wpS_bind (wpS_iter (γ := G3) (step := lo3 c a b) (fun g => (g.1.1.map (·.map item), g.1.2.1.map item, g.1.2.2.1, g.1.2.2.2.1, g.1.2.2.2.2.1, g.1.2.2.2.2.2.1, g.1.2.2.2.2.2.2)) (fun g => SortSt.mk' κ ar pd g.2 fl) (fun x u r hs R hR => ?_) (a := 0) (b := a.size + b.size) (g := ((none, t1.2.1, t1.2.2.1, t1.2.2.2.1, g.1.2.2.2.2 + 1, t1.2.2.2.2.1, t1.2.2.2.2.2), g.2)) (g' := t3) h3 ?_)
        · have hk2 : ∀ g, kindOf (SortSt.mk' κ ar pd g fl) = kd := fun _ => hk
          unfold lo3 lo3a lo3b lo3c at hs
          dsimp only
          by_cases m : u.1.2.2.2.2.1 > 1
          · rw [if_pos m] at hs ⊢
            have hk3 := hk2 (u.1.2.2.2.2.1 - 1)
            walk_at "tw_all"
          · rw [if_neg m] at hs ⊢
            have hk3 := hk2 u.1.2.2.2.2.1
            walk_at "tw_all"
        · dsimp only
          cases e : t3.1.1 with
          | some r =>
            rw [e] at hs
            cases hs
            exact wpS_pure hR
          | none =>
            rw [e] at hs
            cases hs
            simp only [Option.map_none]
            exact wpS_bind (setG_ (wpS_pure hR))
  · dsimp only
    rw [hr]
    exact wpS_pure hq
end
end L2
namespace L2
open PySem PyProof.Rows
section
variable {prog : Program} {w : World} {A : Around} {E : Value → Shared → Prop} {s : Shared} {item : Nat → Keyed} {c : Nat → Nat → Option Bool} {kd : SortKind}
/-! the merge from the right -/
def hiDone (a b out : Array Nat) (na nb : Nat) : Array Nat := a.extract 0 na ++ b.extract 0 nb ++ out.reverse
def hiFirst (a b out : Array Nat) (na nb : Nat) : Array Nat := b.extract 0 nb ++ a.extract 0 na ++ out.reverse
abbrev H1 := Option (Array Nat) × Nat × Nat × Array Nat × Nat × Nat
abbrev H3 := (Option (Array Nat) × Nat × Nat × Array Nat × Nat × Nat × Nat) × Nat
abbrev H0 := (Option (Array Nat) × Nat × Nat × Array Nat × Nat) × Nat
def hi1 (c : Nat → Nat → Option Bool) (a b : Array Nat) (mg : Nat) (g : H1) : Option (Bool × H1) :=
  b[g.2.2.1 - 1]?.bind fun y => a[g.2.1 - 1]?.bind fun x => (c y x).bind fun q =>
    if q = true then
      if (g.2.1 - 1 == 0) = true then some (true, some (hiDone a b (g.2.2.2.1.push x) (g.2.1 - 1) g.2.2.1), g.2.1 - 1, g.2.2.1, g.2.2.2.1.push x, g.2.2.2.2.1 + 1, 0)
      else if g.2.2.2.2.1 + 1 ≥ mg then some (true, none, g.2.1 - 1, g.2.2.1, g.2.2.2.1.push x, g.2.2.2.2.1 + 1, 0)
      else some (false, none, g.2.1 - 1, g.2.2.1, g.2.2.2.1.push x, g.2.2.2.2.1 + 1, 0)
    else
      if (g.2.2.1 - 1 == 1) = true then some (true, some (hiFirst a b (g.2.2.2.1.push y) g.2.1 (g.2.2.1 - 1)), g.2.1, g.2.2.1 - 1, g.2.2.2.1.push y, 0, g.2.2.2.2.2 + 1)
      else if g.2.2.2.2.2 + 1 ≥ mg then some (true, none, g.2.1, g.2.2.1 - 1, g.2.2.2.1.push y, 0, g.2.2.2.2.2 + 1)
      else some (false, none, g.2.1, g.2.2.1 - 1, g.2.2.2.1.push y, 0, g.2.2.2.2.2 + 1)
/-- behind the second search -/
def hi3c (a b out : Array Nat) (x na nb mg k k2 : Nat) : Option (Bool × H3) :=
    if (na - 1 == 0) = true then some (true, (some (hiDone a b (out.push x) (na - 1) nb), na - 1, nb, out.push x, mg, k, k2), mg)
    else if (decide (k < 7) && decide (k2 < 7)) = true then some (true, (none, na - 1, nb, out.push x, mg, k, k2), mg)
    else some (false, (none, na - 1, nb, out.push x, mg, k, k2), mg)
/-- behind the first search -/
def hi3b (c : Nat → Nat → Option Bool) (a b out : Array Nat) (y na nb mg k bc : Nat) : Option (Bool × H3) :=
    if (nb - 1 == 1) = true then some (true, (some (hiFirst a b (out.push y) na (nb - 1)), na, nb - 1, out.push y, mg, k, bc), mg)
    else a[na - 1]?.bind fun x => (gal c true x b 0 (nb - 1) (nb - 1 - 1)).bind fun at2 =>
      if nb - 1 - at2 > 0 then
        if (at2 == 1) = true then some (true, (some (hiFirst a b (out.push y ++ (b.extract at2 (nb - 1)).reverse) na at2), na, at2, out.push y ++ (b.extract at2 (nb - 1)).reverse, mg, k, nb - 1 - at2), mg)
        else if (at2 == 0) = true then some (true, (some (hiDone a b (out.push y ++ (b.extract at2 (nb - 1)).reverse) na at2), na, at2, out.push y ++ (b.extract at2 (nb - 1)).reverse, mg, k, nb - 1 - at2), mg)
        else hi3c a b (out.push y ++ (b.extract at2 (nb - 1)).reverse) x na at2 mg k (nb - 1 - at2)
      else hi3c a b (out.push y) x na (nb - 1) mg k (nb - 1 - at2)
def hi3a (c : Nat → Nat → Option Bool) (a b out : Array Nat) (na nb mg bc : Nat) : Option (Bool × H3) :=
  b[nb - 1]?.bind fun y => (gal c false y a 0 na (na - 1)).bind fun at1 =>
    if na - at1 > 0 then
      if (at1 == 0) = true then some (true, (some (hiDone a b (out ++ (a.extract at1 na).reverse) at1 nb), at1, nb, out ++ (a.extract at1 na).reverse, mg, na - at1, bc), mg)
      else hi3b c a b (out ++ (a.extract at1 na).reverse) y at1 nb mg (na - at1) bc
    else hi3b c a b out y na nb mg (na - at1) bc
def hi3 (c : Nat → Nat → Option Bool) (a b : Array Nat) (g : H3) : Option (Bool × H3) :=
  if g.1.2.2.2.2.1 > 1 then hi3a c a b g.1.2.2.2.1 g.1.2.1 g.1.2.2.1 (g.1.2.2.2.2.1 - 1) g.1.2.2.2.2.2.2
  else hi3a c a b g.1.2.2.2.1 g.1.2.1 g.1.2.2.1 g.1.2.2.2.2.1 g.1.2.2.2.2.2.2
def hi0 (c : Nat → Nat → Option Bool) (a b : Array Nat) (g : H0) : Option (Bool × H0) :=
  (iter (hi1 c a b g.1.2.2.2.2) (a.size + b.size) (none, g.1.2.1, g.1.2.2.1, g.1.2.2.2.1, 0, 0)).bind fun t =>
    match t.1 with
    | some r => some (true, (some r, t.2.1, t.2.2.1, t.2.2.2.1, g.1.2.2.2.2), g.2)
    | none => (iter (hi3 c a b) (a.size + b.size) ((none, t.2.1, t.2.2.1, t.2.2.2.1, g.1.2.2.2.2 + 1, t.2.2.2.2.1, t.2.2.2.2.2), g.2)).map fun u =>
      match u.1.1 with
      | some r => (true, (some r, u.1.2.1, u.1.2.2.1, u.1.2.2.2.1, u.1.2.2.2.2.1), u.2)
      | none => (false, (none, u.1.2.1, u.1.2.2.1, u.1.2.2.2.1, u.1.2.2.2.2.1 + 1), u.1.2.2.2.2.1 + 1)
def mHi (c : Nat → Nat → Option Bool) (a b : Array Nat) (sg : Nat) : Option (Array Nat × Nat) :=
  a[a.size - 1]?.bind fun x =>
    if (a.size - 1 == 0) = true then some (hiDone a b #[x] (a.size - 1) b.size, sg)
    else if (b.size == 1) = true then some (hiFirst a b #[x] (a.size - 1) b.size, sg)
    else (iter (hi0 c a b) (a.size + b.size) ((none, a.size - 1, b.size, #[x], sg), sg)).bind fun t => t.1.1.map fun r => (r, t.2)
theorem hiDone_map (a b out : Array Nat) (na nb : Nat) : (hiDone a b out na nb).map item = (a.map item).extract 0 na ++ (b.map item).extract 0 nb ++ (out.map item).reverse := by
  unfold hiDone
  simp
theorem hiFirst_map (a b out : Array Nat) (na nb : Nat) : (hiFirst a b out na nb).map item = (b.map item).extract 0 nb ++ (a.map item).extract 0 na ++ (out.map item).reverse := by
  unfold hiFirst
  simp
set_option maxHeartbeats 4000000 in
theorem told_mHi (hc : Told kd prog w A s item c) {st : SortSt} (hk : kindOf st = kd) {a b out : Array Nat} {g : Nat} (h : mHi c a b (gallopOf st) = some (out, g)) {Q : Array Keyed → SortSt → Prop} (hq : Q (out.map item) (stG st g)) :
    wpS (model prog w) A E s (mergeHi' (a.map item) (b.map item)) Q st := by
  obtain ⟨κ, ar, pd, g0, fl⟩ := st
  walk_at "bare"
  dsimp only
  refine wpS_bind (wpS_lift (wpAny_rule ⟨rfl, ?_⟩))
  unfold mHi at h
  obtain ⟨y, hy, h⟩ := Option.bind_eq_some_iff.mp h
  simp only [Array.size_map]
  refine wpS_bind (told_elem hy ?_)
  have ey : (#[item y] : Array Keyed) = (#[y] : Array Nat).map item := by simp
  simp only [ey]
  by_cases e1 : (a.size - 1 == 0) = true
  · rw [if_pos e1] at h ⊢
    cases h
    rw [hiDone_map] at hq
    exact wpS_pure hq
  rw [if_neg e1] at h ⊢
  by_cases e2 : (b.size == 1) = true
  · rw [if_pos e2] at h ⊢
    cases h
    rw [hiFirst_map] at hq
    exact wpS_pure hq
  rw [if_neg e2] at h ⊢
  refine wpS_bind (wpS_get ?_)
  obtain ⟨t, h0, h⟩ := Option.bind_eq_some_iff.mp h
  obtain ⟨r, hr, h⟩ := Option.map_eq_some_iff.mp h
  cases h
  refine wpS_bind (wpS_iter (γ := H0) (step := hi0 c a b) (fun g => (g.1.1.map (·.map item), g.1.2.1, g.1.2.2.1, g.1.2.2.2.1.map item, g.1.2.2.2.2)) (fun g => SortSt.mk' κ ar pd g.2 fl) (fun x g r hs R hR => ?_) (a := 0) (b := a.size + b.size) (g := ((none, a.size - 1, b.size, #[y], g0), g0)) (g' := t) h0 ?_)
  · unfold hi0 at hs
    obtain ⟨t1, h1, hs⟩ := Option.bind_eq_some_iff.mp hs
    dsimp only
    refine wpS_bind (wpS_iter (γ := H1) (step := hi1 c a b g.1.2.2.2.2) (fun g => (g.1.map (·.map item), g.2.1, g.2.2.1, g.2.2.2.1.map item, g.2.2.2.2.1, g.2.2.2.2.2)) (fun _ => SortSt.mk' κ ar pd g.2 fl) (fun x u r hs R hR => ?_) (a := 0) (b := a.size + b.size) (g := (none, g.1.2.1, g.1.2.2.1, g.1.2.2.2.1, 0, 0)) (g' := t1) h1 ?_)
    · unfold hi1 at hs
      dsimp only
      have hk2 : kindOf (SortSt.mk' κ ar pd g.2 fl) = kd := hk
      walk_at "tw_hi"
    · dsimp only
      cases e : t1.1 with
      | some r =>
        rw [e] at hs
        cases hs
        exact wpS_pure hR
      | none =>
        rw [e] at hs
        obtain ⟨t3, h3, hs⟩ := Option.map_eq_some_iff.mp hs
        simp only [Option.map_none]
        refine wpS_bind (wpS_lift (wpAny_rule ⟨rfl, ?_⟩))
        refine wpS_bind (wpS_iter (γ := H3) (step := hi3 c a b) (fun g => (g.1.1.map (·.map item), g.1.2.1, g.1.2.2.1, g.1.2.2.2.1.map item, g.1.2.2.2.2.1, g.1.2.2.2.2.2.1, g.1.2.2.2.2.2.2)) (fun g => SortSt.mk' κ ar pd g.2 fl) (fun x u r hs R hR => ?_) (a := 0) (b := a.size + b.size) (g := ((none, t1.2.1, t1.2.2.1, t1.2.2.2.1, g.1.2.2.2.2 + 1, t1.2.2.2.2.1, t1.2.2.2.2.2), g.2)) (g' := t3) h3 ?_)
        · have hk2 : ∀ g, kindOf (SortSt.mk' κ ar pd g fl) = kd := fun _ => hk
          unfold hi3 hi3a hi3b hi3c at hs
          dsimp only
          by_cases m : u.1.2.2.2.2.1 > 1
          · rw [if_pos m] at hs ⊢
            have hk3 := hk2 (u.1.2.2.2.2.1 - 1)
            walk_at "tw_hi"
          · rw [if_neg m] at hs ⊢
            have hk3 := hk2 u.1.2.2.2.2.1
            walk_at "tw_hi"
        · dsimp only
          cases e : t3.1.1 with
          | some r =>
            rw [e] at hs
            cases hs
            exact wpS_pure hR
          | none =>
            rw [e] at hs
            cases hs
            simp only [Option.map_none]
            exact wpS_bind (setG_ (wpS_pure hR))
  · dsimp only
    rw [hr]
    exact wpS_pure hq
end
end L2
namespace L2
open PySem PyProof.Rows
/-- a loop that counts -/
def iterI {γ : Type} (step : Nat → γ → Option (Bool × γ)) : Nat → Nat → γ → Option γ
  | 0, _, g => some g
  | f + 1, i, g => (step i g).bind fun r => if r.1 = true then some r.2 else iterI step f (i + 1) r.2
section
variable {M : Model} {A : Around} {E : Value → Shared → Prop} {s : Shared} {σ : Type}
theorem wpS_iterI {β γ : Type} {step : Nat → γ → Option (Bool × γ)} (φ : γ → β) (τ : γ → σ) {f : Nat → β → StateT σ Sem (ForInStep β)} {Q : β → σ → Prop}
    (hs : ∀ x g r, step x g = some r → ∀ R : ForInStep β → σ → Prop, R (if r.1 = true then .done (φ r.2) else .yield (φ r.2)) (τ r.2) → wpS M A E s (f x (φ g)) R (τ g))
    {a b : Nat} {g g' : γ} (h : iterI step (b - a) a g = some g') (hq : Q (φ g') (τ g')) : wpS M A E s (forIn [a:b] (φ g) f) Q (τ g) := by
  rw [Std.Legacy.Range.forIn_eq_forIn_range']
  have hsz : ([a:b] : Std.Legacy.Range).size = b - a := by simp [Std.Legacy.Range.size]
  show wpS M A E s (forIn (List.range' a ([a:b] : Std.Legacy.Range).size 1) (φ g) f) Q (τ g)
  rw [hsz]
  have go : ∀ (k i : Nat) (g : γ), iterI step k i g = some g' → wpS M A E s (forIn (List.range' i k 1) (φ g) f) Q (τ g) := by
    intro k
    induction k with
    | zero =>
      intro i g h
      cases h
      rw [List.range'_zero, List.forIn_nil]
      exact wpS_pure hq
    | succ k ih =>
      intro i g h
      rw [List.range'_succ, List.forIn_cons]
      unfold iterI at h
      obtain ⟨r, hr, h⟩ := Option.bind_eq_some_iff.mp h
      refine wpS_bind (hs i g r hr _ ?_)
      by_cases hd : r.1 = true
      · rw [if_pos hd] at h ⊢
        cases h
        exact wpS_pure hq
      · rw [if_neg hd] at h ⊢
        exact ih (i + 1) r.2 h
  exact go _ a g h
end
section
variable {prog : Program} {w : World} {A : Around} {E : Value → Shared → Prop} {s : Shared} {item : Nat → Keyed} {c : Nat → Nat → Option Bool} {kd : SortKind} {pd : Array (Nat × Nat × Nat)} {g : Nat}
abbrev sst (kd : SortKind) (item : Nat → Keyed) (p : Array Nat) (pd : Array (Nat × Nat × Nat)) (g : Nat) : SortSt := SortSt.mk' kd (p.map item) pd g none
def cAt (c : Nat → Nat → Option Bool) (p : Array Nat) (i j : Nat) : Option Bool := p[i]?.bind fun x => p[j]?.bind fun y => c x y
theorem told_at (hc : Told kd prog w A s item c) {p : Array Nat} {i j : Nat} {b : Bool} (h : cAt c p i j = some b) {Q : Option Bool → SortSt → Prop} (hq : Q (some b) (sst kd item p pd g)) : wpS (model prog w) A E s (ltAt' i j) Q (sst kd item p pd g) := by
  obtain ⟨x, hx, h⟩ := Option.bind_eq_some_iff.mp h
  obtain ⟨y, hy, h⟩ := Option.bind_eq_some_iff.mp h
  rw [ltAt'_eq]
  refine wpS_bind (wpS_get ?_)
  dsimp only
  exact wpS_bind (told_elem hx (wpS_bind (told_elem hy (told_lt hc rfl h hq))))
def rev (p : Array Nat) (i j : Nat) : Array Nat := mirror p i j ((j - i) / 2)
theorem told_rev {p : Array Nat} {i j : Nat} {Q : Unit → SortSt → Prop} (h : Q () (sst kd item (rev p i j) pd g)) : wpS (model prog w) A E s (reverseSlice' i j) Q (sst kd item p pd g) := by
  rw [reverseSlice'_eq]
  refine wpS_modify ?_
  have e1 : mirror (p.map item) i j ((j - i) / 2) = (rev p i j).map item := PySem.W.kas_swaps_map item (fun k => i + k) (fun k => j - 1 - k) _ p
  show Q () (SortSt.mk' kd (mirror (p.map item) i j ((j - i) / 2)) pd g none)
  rw [e1]
  exact h
theorem told_move {p : Array Nat} {k l : Nat} {Q : Unit → SortSt → Prop} (h : Q () (sst kd item (bubble p k (k - l)) pd g)) : wpS (model prog w) A E s (moveDown' k l) Q (sst kd item p pd g) := by
  rw [moveDown'_eq]
  refine wpS_modify ?_
  have e1 : bubble (p.map item) k (k - l) = (bubble p k (k - l)).map item := PySem.W.kas_swaps_map item (fun i => k - i) (fun i => k - i - 1) _ p
  show Q () (SortSt.mk' kd (bubble (p.map item) k (k - l)) pd g none)
  rw [e1]
  exact h
/-! runs -/
def cAsc (c : Nat → Nat → Option Bool) (p : Array Nat) (l : Nat) (m : Nat) : Option (Bool × Nat) := (cAt c p (l + m) (l + m - 1)).map fun q => if q = true then (true, m) else (false, m + 1)
def cDesc (c : Nat → Nat → Option Bool) (l : Nat) (t : Array Nat × Nat × Nat) : Option (Bool × Array Nat × Nat × Nat) :=
  (cAt c t.1 (l + t.2.1) (l + t.2.1 - 1)).bind fun q =>
    if q = true then if t.2.2 > 0 then some (false, rev t.1 (l + t.2.1 - (t.2.2 + 1)) (l + t.2.1), t.2.1 + 1, 0) else some (false, t.1, t.2.1 + 1, 0)
    else (cAt c t.1 (l + t.2.1 - 1) (l + t.2.1)).bind fun r => if r = true then some (true, t.1, t.2.1, t.2.2) else some (false, t.1, t.2.1 + 1, t.2.2 + 1)
def cTail (c : Nat → Nat → Option Bool) (l n : Nat) (p : Array Nat) (m : Nat) : Option (Nat × Array Nat) := (iter (cAsc c (rev p l (l + m)) l) (n - m) m).map fun k => (k, rev p l (l + m))
def cDown (c : Nat → Nat → Option Bool) (l n : Nat) (p : Array Nat) (m : Nat) : Option (Nat × Array Nat) :=
  (iter (cDesc c l) (n - (m + 1)) (p, m + 1, 0)).bind fun t => if t.2.2 > 0 then cTail c l n (rev t.1 (l + t.2.1 - (t.2.2 + 1)) (l + t.2.1)) t.2.1 else cTail c l n t.1 t.2.1
def cRun (c : Nat → Nat → Option Bool) (l n : Nat) (p : Array Nat) : Option (Nat × Array Nat) :=
  (iter (cAsc c p l) (n - 1) 1).bind fun m => if (m == n) = true then some (m, p) else if m > 1 then (cAt c p l (l + m - 1)).bind fun q => if q = true then some (m, p) else cDown c l n (rev p l (l + m)) m else cDown c l n p m
set_option maxHeartbeats 2000000 in
theorem told_run (hc : Told kd prog w A s item c) {l n k : Nat} {p p' : Array Nat} (h : cRun c l n p = some (k, p')) {Q : Option Nat → SortSt → Prop} (hq : Q (some k) (sst kd item p' pd g)) : wpS (model prog w) A E s (countRun' l n) Q (sst kd item p pd g) := by
  walk_at "bare"
  dsimp only
  unfold cRun at h
  obtain ⟨m, h0, h⟩ := Option.bind_eq_some_iff.mp h
  have hz := h0
  walk_at "tw_asc"
  dsimp only
  by_cases e1 : (m == n) = true
  · rw [if_pos e1] at h ⊢
    cases h
    exact wpS_pure hq
  rw [if_neg e1] at h ⊢
  by_cases e2 : m > 1
  · rw [if_pos e2] at h ⊢
    obtain ⟨q, hq1, h⟩ := Option.bind_eq_some_iff.mp h
    refine wpS_bind (told_at hc hq1 ?_)
    dsimp only
    by_cases e3 : q = true
    · rw [if_pos e3] at h ⊢
      cases h
      exact wpS_pure hq
    rw [if_neg e3] at h ⊢
    refine wpS_bind (told_rev ?_)
    unfold cDown cTail at h
    walk_at "tw_down"
  · rw [if_neg e2] at h ⊢
    unfold cDown cTail at h
    walk_at "tw_down"
/-! insertion -/
def bPl (c : Nat → Nat → Option Bool) (p : Array Nat) (l k : Nat) (t : Nat × Nat) : Option (Bool × Nat × Nat) :=
  if t.1 ≥ t.2 then some (true, t.1, t.2) else (cAt c p (l + k) (l + (t.1 + t.2) / 2)).bind fun q => if q = true then some (false, t.1, (t.1 + t.2) / 2) else some (false, (t.1 + t.2) / 2 + 1, t.2)
def bIns (c : Nat → Nat → Option Bool) (l k : Nat) (p : Array Nat) : Option (Bool × Array Nat) := (iter (bPl c p l k) k (0, k)).map fun t => (false, bubble p (l + k) (l + k - (l + t.1)))
def bSort (c : Nat → Nat → Option Bool) (l n ok : Nat) (p : Array Nat) : Option (Array Nat) := iterI (bIns c l) (n - max ok 1) (max ok 1) p
theorem told_bin (hc : Told kd prog w A s item c) {l n ok : Nat} {p p' : Array Nat} (h : bSort c l n ok p = some p') {Q : Bool → SortSt → Prop} (hq : Q true (sst kd item p' pd g)) : wpS (model prog w) A E s (binarySort' l n ok) Q (sst kd item p pd g) := by
  walk_at "bare"
  dsimp only
  refine wpS_bind (wpS_iterI (γ := Array Nat) (step := bIns c l) (fun _ => (none, ())) (fun p => sst kd item p pd g) (fun k p r hs R hR => ?_) h (wpS_pure hq))
  obtain ⟨t, ht, rfl⟩ := Option.map_eq_some_iff.mp hs
  refine wpS_bind (wpS_iter (γ := Nat × Nat) (step := bPl c p l k) (fun t => (none, t.1, t.2)) (fun _ => sst kd item p pd g) (fun x t r hs R hR => ?_) (a := 0) (b := k) ht ?_)
  · unfold bPl at hs
    dsimp only
    by_cases e : t.1 ≥ t.2
    · rw [if_pos e] at hs ⊢
      cases hs
      exact wpS_pure hR
    · rw [if_neg e] at hs ⊢
      obtain ⟨q, hq1, hs⟩ := Option.bind_eq_some_iff.mp hs
      refine wpS_bind (told_at hc hq1 ?_)
      cases q <;> (cases hs; exact wpS_pure hR)
  · exact wpS_bind (told_move (wpS_pure hR))
end
end L2
namespace L2
open PySem PyProof.Rows
section
variable {prog : Program} {w : World} {A : Around} {E : Value → Shared → Prop} {s : Shared} {item : Nat → Keyed} {c : Nat → Nat → Option Bool} {kd : SortKind}
abbrev Pd := Array (Nat × Nat × Nat)
/-- laid over from place o on -/
def lay (p : Array Nat) (o : Nat) (xs : Array Nat) : Array Nat := xs.toList.zipIdx.foldl (fun a x => a.setIfInBounds (o + x.2) x.1) p
theorem lay_map (p : Array Nat) (o : Nat) (xs : Array Nat) : (xs.map item).toList.zipIdx.foldl (fun a x => a.setIfInBounds (o + x.2) x.1) (p.map item) = (lay p o xs).map item := by
  have go : ∀ (l : List Nat) (k : Nat) (p : Array Nat), ((l.map item).zipIdx k).foldl (fun a x => a.setIfInBounds (o + x.2) x.1) (p.map item) = ((l.zipIdx k).foldl (fun a x => a.setIfInBounds (o + x.2) x.1) p).map item := by
    intro l
    induction l with
    | nil => intro k p; rfl
    | cons x l ih =>
      intro k p
      rw [List.map_cons, List.zipIdx_cons, List.zipIdx_cons, List.foldl_cons, List.foldl_cons]
      rw [show (p.map item).setIfInBounds (o + k) (item x) = (p.setIfInBounds (o + k) x).map item from (Array.map_setIfInBounds ..).symm]
      exact ih _ _
  rw [Array.toList_map]
  exact go _ 0 p
abbrev Ts := Array Nat × Pd × Nat
def mAt (c : Nat → Nat → Option Bool) (i : Nat) (t : Ts) : Option Ts :=
  t.2.1[i]?.bind fun u => t.2.1[i + 1]?.bind fun v => t.1[v.1]?.bind fun y => (gal c false y t.1 u.1 u.2.1 0).bind fun k =>
    if (u.2.1 - k == 0) = true then some (t.1, (t.2.1.setIfInBounds i (u.1, u.2.1 + v.2.1, u.2.2)).eraseIdxIfInBounds (i + 1), t.2.2)
    else t.1[u.1 + k + (u.2.1 - k) - 1]?.bind fun x => (gal c true x t.1 v.1 v.2.1 (v.2.1 - 1)).bind fun nb =>
      if (nb == 0) = true then some (t.1, (t.2.1.setIfInBounds i (u.1, u.2.1 + v.2.1, u.2.2)).eraseIdxIfInBounds (i + 1), t.2.2)
      else if u.2.1 - k ≤ nb then (mLo c (t.1.extract (u.1 + k) v.1) (t.1.extract v.1 (v.1 + nb)) t.2.2).bind fun r => some (lay t.1 (u.1 + k) r.1, (t.2.1.setIfInBounds i (u.1, u.2.1 + v.2.1, u.2.2)).eraseIdxIfInBounds (i + 1), r.2)
      else (mHi c (t.1.extract (u.1 + k) v.1) (t.1.extract v.1 (v.1 + nb)) t.2.2).bind fun r => some (lay t.1 (u.1 + k) r.1, (t.2.1.setIfInBounds i (u.1, u.2.1 + v.2.1, u.2.2)).eraseIdxIfInBounds (i + 1), r.2)
theorem wpS_set {M : Model} {σ : Type} {x : σ} {Q : PUnit → σ → Prop} {st : σ} (h : Q ⟨⟩ x) : wpS M A E s (set x : StateT σ Sem PUnit) Q st := by
  unfold wpS
  show wpAny M A (pure ((), x)) _ E s
  exact wpAny_pure ⟨rfl, h⟩
set_option maxHeartbeats 2000000 in
theorem told_mAt (hc : Told kd prog w A s item c) {i : Nat} {t t' : Ts} (h : mAt c i t = some t') {Q : Bool → SortSt → Prop} (hq : Q true (sst kd item t'.1 t'.2.1 t'.2.2)) : wpS (model prog w) A E s (mergeAt' i) Q (sst kd item t.1 t.2.1 t.2.2) := by
  walk_at "bare"
  dsimp only
  refine wpS_bind (wpS_get ?_)
  unfold mAt at h
  obtain ⟨⟨sa, na, pw⟩, hu, h⟩ := Option.bind_eq_some_iff.mp h
  obtain ⟨⟨sb, nb, pw2⟩, hv, h⟩ := Option.bind_eq_some_iff.mp h
  obtain ⟨y, hy, h⟩ := Option.bind_eq_some_iff.mp h
  obtain ⟨k, hk, h⟩ := Option.bind_eq_some_iff.mp h
  dsimp only at *
  rw [hu, hv]
  dsimp only
  refine wpS_bind (wpS_set ?_)
  refine wpS_bind (told_elem hy ?_)
  refine wpS_bind (told_gal hc rfl hk ?_)
  dsimp only
  by_cases e1 : (na - k == 0) = true
  · rw [if_pos e1] at h ⊢
    cases h
    exact wpS_pure hq
  rw [if_neg e1] at h ⊢
  obtain ⟨x, hx, h⟩ := Option.bind_eq_some_iff.mp h
  obtain ⟨nb2, hk2, h⟩ := Option.bind_eq_some_iff.mp h
  refine wpS_bind (told_elem hx ?_)
  refine wpS_bind (told_gal hc rfl hk2 ?_)
  dsimp only
  by_cases e2 : (nb2 == 0) = true
  · rw [if_pos e2] at h ⊢
    cases h
    exact wpS_pure hq
  rw [if_neg e2] at h ⊢
  have x1 : (t.1.map item).extract (sa + k) sb = (t.1.extract (sa + k) sb).map item := by simp
  have x2 : (t.1.map item).extract sb (sb + nb2) = (t.1.extract sb (sb + nb2)).map item := by simp
  rw [x1, x2]
  by_cases e3 : na - k ≤ nb2
  · rw [if_pos e3] at h ⊢
    obtain ⟨r, hr, h⟩ := Option.bind_eq_some_iff.mp h
    cases h
    refine wpS_bind (told_mLo hc rfl hr ?_)
    refine wpS_bind (wpS_modify ?_)
    refine wpS_bind (wpS_get (wpS_pure ?_))
    dsimp only
    rw [lay_map]
    exact hq
  · rw [if_neg e3] at h ⊢
    obtain ⟨r, hr, h⟩ := Option.bind_eq_some_iff.mp h
    cases h
    refine wpS_bind (told_mHi hc rfl hr ?_)
    refine wpS_bind (wpS_modify ?_)
    refine wpS_bind (wpS_get (wpS_pure ?_))
    dsimp only
    rw [lay_map]
    exact hq
end
end L2
namespace L2
open PySem PyProof.Rows
section
variable {prog : Program} {w : World} {A : Around} {E : Value → Shared → Prop} {s : Shared} {item : Nat → Keyed} {c : Nat → Nat → Option Bool} {kd : SortKind}
def sCol (c : Nat → Nat → Option Bool) (pw : Nat) (t : Ts) : Option (Bool × Ts) :=
  match (if t.2.1.size > 1 then t.2.1[t.2.1.size - 2]? else none) with
  | some u => if u.2.2 ≤ pw then some (true, t) else (mAt c (t.2.1.size - 2) t).bind fun t' => some (false, t')
  | none => some (true, t)
def sPush (c : Nat → Nat → Option Bool) (size lo n : Nat) (t : Ts) : Option (Bool × Nat × Ts) :=
  match t.2.1.back? with
  | some u => (iter (sCol c (power' size (2 * u.1 + u.2.1) (2 * u.1 + u.2.1 + u.2.1 + n) size)) size t).bind fun t' =>
    some (false, lo + n, t'.1, (t'.2.1.modify (t'.2.1.size - 1) fun x => (x.1, x.2.1, power' size (2 * u.1 + u.2.1) (2 * u.1 + u.2.1 + u.2.1 + n) size)).push (lo, n, 0), t'.2.2)
  | none => some (false, lo + n, t.1, t.2.1.push (lo, n, 0), t.2.2)
def sRun (c : Nat → Nat → Option Bool) (size : Nat) (g : Nat × Ts) : Option (Bool × Nat × Ts) :=
  if g.1 ≥ size then some (true, g) else (cRun c g.1 (size - g.1) g.2.1).bind fun r =>
    if r.1 < minRun' size size 0 then (bSort c g.1 (min (size - g.1) (minRun' size size 0)) r.1 r.2).bind fun p2 => sPush c size g.1 (min (size - g.1) (minRun' size size 0)) (p2, g.2.2)
    else sPush c size g.1 r.1 (r.2, g.2.2)
def sEnd (c : Nat → Nat → Option Bool) (t : Ts) : Option (Bool × Ts) :=
  if t.2.1.size ≤ 1 then some (true, t)
  else (mAt c (if Option.any (fun x => decide (x < t.2.1[t.2.1.size - 2 + 1]?.elim 0 fun x => x.2.1)) (if t.2.1.size - 2 > 0 then Option.map (fun x => x.2.1) t.2.1[t.2.1.size - 2 - 1]? else none) = true then t.2.1.size - 2 - 1 else t.2.1.size - 2) t).bind fun t' => some (false, t')
def sAll (c : Nat → Nat → Option Bool) (n : Nat) : Option (Array Nat) :=
  (iter (sRun c n) n (0, List.toArray (List.range n), #[], 7)).bind fun g => (iter (sEnd c) n g.2).map (·.1)
set_option maxHeartbeats 2000000 in
theorem told_sort (hc : Told kd prog w A s item c) {n : Nat} {p : Array Nat} (h : sAll c n = some p) {Q : Unit → SortSt → Prop} (hq : ∀ pd g, Q () (sst kd item p pd g)) : wpS (model prog w) A E s sortRuns' Q (sst kd item (List.toArray (List.range n)) #[] 7) := by
  rw [sortRuns'_eq]
  try dsimp only
  refine wpS_bind (wpS_get ?_)
  have hz : (arrOf (sst kd item (List.toArray (List.range n)) #[] 7)).size = n := by
    show ((List.toArray (List.range n)).map item).size = n
    simp
  rw [hz]
  unfold sAll at h
  obtain ⟨g, h1, h⟩ := Option.bind_eq_some_iff.mp h
  obtain ⟨t, h2, rfl⟩ := Option.map_eq_some_iff.mp h
  refine wpS_bind (wpS_iter (γ := Nat × Ts) (step := sRun c n) (fun g => (none, g.1)) (fun g => sst kd item g.2.1 g.2.2.1 g.2.2.2) (fun x g r hs R hR => ?_) (a := 0) (b := n) (g := (0, List.toArray (List.range n), #[], 7)) h1 ?_)
  · unfold sRun at hs
    try dsimp only
    by_cases e1 : g.1 ≥ n
    · rw [if_pos e1] at hs ⊢
      cases hs
      exact wpS_pure hR
    rw [if_neg e1] at hs ⊢
    obtain ⟨k, hk, hs⟩ := Option.bind_eq_some_iff.mp hs
    refine wpS_bind (told_run hc hk ?_)
    try dsimp only
    by_cases e2 : k.1 < minRun' n n 0
    · rw [if_pos e2] at hs ⊢
      obtain ⟨p2, hp, hs⟩ := Option.bind_eq_some_iff.mp hs
      refine wpS_bind (wpS_lift (wpAny_rule ⟨rfl, ?_⟩))
      refine wpS_bind (told_bin hc hp ?_)
      simp only [Bool.not_true, Bool.false_eq_true, if_false]
      walk_at "tw_push"
    · rw [if_neg e2] at hs ⊢
      walk_at "tw_push"
  · try dsimp only
    refine wpS_bind (wpS_iter (γ := Ts) (step := sEnd c) (fun _ => (none, ())) (fun t => sst kd item t.1 t.2.1 t.2.2) (fun x t r hs R hR => ?_) (a := 0) (b := n) (g := g.2) h2 (wpS_pure (hq _ _)))
    unfold sEnd at hs
    refine wpS_bind (wpS_get ?_)
    try dsimp only
    by_cases e1 : t.2.1.size ≤ 1
    · rw [if_pos e1] at hs ⊢
      cases hs
      exact wpS_pure hR
    rw [if_neg e1] at hs ⊢
    obtain ⟨t', hm, hs⟩ := Option.bind_eq_some_iff.mp hs
    cases hs
    exact wpS_bind (told_mAt hc hm (wpS_pure hR))
end
end L2
/-! ### max(xs, default=d), xs a list of ints -/
namespace L2
open PySem PySem.Spec PyProof.Rows PyProof
section
variable {prog : Program} {w : World} {A : Around} {R : Result → Shared → Prop} {I : Addr} {fp wr : List Addr} {n : Nat} {P : Nat → Value → Prop} {St : Nat → Heap → Prop} {nm : Str} {dv : Value}
/-- the turns behind the first one -/
theorem mxd_more (W : Walks prog w A.in1 I fp wr n P St) (bt : Nat → Nat → Bool) (hc : CmpOf prog w A.in1 .Gt P bt) (S : Addr) (nS : S ∉ fp) :
    ∀ (m i : Nat) (s : Shared) (u : Value) (c : Nat), n - (i + 1) = m → i + 1 ≤ n → St (i + 1) s.heap → P (argBest bt i) u →
    s.heap.get? S = some { cls := .type "list", dict := none, data := .seq #[u, u] c, slots := #[] } →
    (∀ v h2 t2, P (argBest bt (n - 1)) v → (∀ b o, b ∉ wr → b ≠ S → s.heap.get? b = some o → h2.get? b = some o) → R (.ok (.ret v)) { s with heap := h2, toks := t2 }) →
    codeAny (model prog w) A (.builtin "max.loop" ⟨[.ref I, .none, .ref S], [(nm, dv)]⟩) R s := by
  have nSw : S ∉ wr := fun z => nS (W.sub _ z)
  have en : (toString "max" ++ toString ".loop" : String) = "max.loop" := by decide
  intro m
  induction m with
  | zero =>
    intro i s u c e1 e2 st pu hS q
    have ei : i + 1 = n := by omega
    refine codeAny_builtin F.entry_max_loop ?_
    rw [Around.under_plainId F.plain_max_loop _]
    show wpAny _ A.in1 (seqItems? (.ref S) >>= _) _ _ s
    refine wpAny_bind (wpAny_seqItems hS rfl ?_)
    show wpAny _ A.in1 (tryCatch (pyNext (.ref I)) _ >>= _) _ _ s
    refine wpAny_bind (wpAny_tryCatch (W.done s _ _ (ei ▸ st) fun h2 t2 k2 => ?_))
    have hS2 := k2 S _ nSw hS
    show wpAny _ A.in1 (updateSeq S (fun _ => #[]) >>= _) _ _ _
    refine wpAny_bind ?_
    refine wpAny_updateSeq hS2 rfl (wpAny_bind (wpAny_letGo (wpAny_pure ?_)))
    refine q u _ t2 (by rw [← ei]; exact pu) fun b o b1 b2 e => (Heap.get?_update_other _ _ (Ne.symm b2)).trans (k2 b o b1 e)
  | succ m ih =>
    intro i s u c e1 e2 st pu hS q
    have li : i + 1 < n := by omega
    refine codeAny_builtin F.entry_max_loop ?_
    rw [Around.under_plainId F.plain_max_loop _]
    show wpAny _ A.in1 (seqItems? (.ref S) >>= _) _ _ s
    refine wpAny_bind (wpAny_seqItems hS rfl ?_)
    show wpAny _ A.in1 (tryCatch (pyNext (.ref I)) _ >>= _) _ _ s
    refine wpAny_bind (wpAny_tryCatch (W.item (i + 1) s _ _ li st fun v h2 t2 pv st2 k2 => ?_))
    have hS2 := k2 S _ nSw hS
    show wpAny _ A.in1 (tryCatch (holding [v, v] (richCompare .Gt v u >>= _)) _ >>= _) _ _ _
    refine wpAny_bind (wpAny_tryCatch (wpAny_holding (wpAny_bind (hc (i + 1) (argBest bt i) v u _ _ _ pv pu ?_))))
    refine wpAny_bind (wpAny_holding (wpAny_truthy_bool ?_))
    refine wpAny_bind (wpAny_letGo (wpAny_pure ?_))
    cases hb : bt (i + 1) (argBest bt i) with
    | true =>
      simp only [if_true]
      refine wpAny_bind ?_
      refine wpAny_updateSeq hS2 rfl (wpAny_bind (wpAny_letGo ?_))
      rw [en]
      refine wpAny_pure ⟨plainId_quiet F.plain_max_loop _, ih (i + 1) _ v _ (by omega) li (W.frame _ _ _ st2 fun b b1 o e => ?_) (by simp only [argBest, hb, if_true]; exact pv) (Heap.get?_update_self _ hS2 rfl) fun v3 h3 t3 p3 k3 => ?_⟩
      · exact (Heap.get?_update_other _ _ (fun z : S = b => nS (by rw [z]; exact b1))).trans e
      · exact q v3 h3 t3 p3 fun b o b1 b2 e => k3 b o b1 b2 ((Heap.get?_update_other _ _ (Ne.symm b2)).trans (k2 b o b1 e))
    | false =>
      simp only [Bool.false_eq_true, if_false]
      refine wpAny_bind (wpAny_letGo ?_)
      rw [en]
      refine wpAny_pure ⟨plainId_quiet F.plain_max_loop _, ih (i + 1) _ u c (by omega) li st2 (by simp only [argBest, hb, Bool.false_eq_true, if_false]; exact pu) hS2 fun v3 h3 t3 p3 k3 => ?_⟩
      exact q v3 h3 t3 p3 fun b o b1 b2 e => k3 b o b1 b2 (k2 b o b1 e)
/-- the first turn: the given one where there is none -/
theorem mxd_first (W : Walks prog w A.in1 I fp wr n P St) (bt : Nat → Nat → Bool) (hc : CmpOf prog w A.in1 .Gt P bt) (S : Addr) (nS : S ∉ fp) {s : Shared} {c : Nat} (st : St 0 s.heap)
    (hS : s.heap.get? S = some { cls := .type "list", dict := none, data := .seq #[] c, slots := #[] })
    (q : ∀ v h2 t2, (0 < n → P (argBest bt (n - 1)) v) → (n = 0 → v = dv) → (∀ b o, b ∉ wr → b ≠ S → s.heap.get? b = some o → h2.get? b = some o) → R (.ok (.ret v)) { s with heap := h2, toks := t2 }) :
    codeAny (model prog w) A (.builtin "max.loop" ⟨[.ref I, .none, .ref S], [(nm, dv)]⟩) R s := by
  have nSw : S ∉ wr := fun z => nS (W.sub _ z)
  have en : (toString "max" ++ toString ".loop" : String) = "max.loop" := by decide
  refine codeAny_builtin F.entry_max_loop ?_
  rw [Around.under_plainId F.plain_max_loop _]
  show wpAny _ A.in1 (seqItems? (.ref S) >>= _) _ _ s
  refine wpAny_bind (wpAny_seqItems hS rfl ?_)
  show wpAny _ A.in1 (tryCatch (pyNext (.ref I)) _ >>= _) _ _ s
  by_cases h0 : n = 0
  · refine wpAny_bind (wpAny_tryCatch (W.done s _ _ (by rw [h0]; exact st) fun h2 t2 k2 => ?_))
    show wpAny _ A.in1 (rule (toString "max" ++ toString ".default") >>= _) _ _ _
    refine wpAny_bind (wpAny_rule ?_)
    exact wpAny_pure (q dv _ t2 (fun z => absurd z (by omega)) (fun _ => rfl) fun b o b1 b2 e => k2 b o b1 e)
  · refine wpAny_bind (wpAny_tryCatch (W.item 0 s _ _ (by omega) st fun v h2 t2 pv st2 k2 => ?_))
    have hS2 := k2 S _ nSw hS
    show wpAny _ A.in1 (updateSeq S (fun _ => #[v, v]) >>= _) _ _ _
    refine wpAny_bind ?_
    refine wpAny_updateSeq hS2 rfl ?_
    rw [en]
    refine wpAny_pure ⟨plainId_quiet F.plain_max_loop _, mxd_more W bt hc S nS _ 0 _ v _ rfl (by omega) (W.frame _ _ _ st2 fun b b1 o e => ?_) pv (Heap.get?_update_self _ hS2 rfl) fun v3 h3 t3 p3 k3 => ?_⟩
    · exact (Heap.get?_update_other _ _ (fun z : S = b => nS (by rw [z]; exact b1))).trans e
    · exact q v3 h3 t3 (fun _ => p3) (fun z => absurd z h0) fun b o b1 b2 e => k3 b o b1 b2 ((Heap.get?_update_other _ _ (Ne.symm b2)).trans (k2 b o b1 e))
end
section
variable {prog : Program} {w : World} {A : Around} {E : Value → Shared → Prop} {s : Shared}
theorem args_mxd (a v : Value) : argsOk "max" ⟨[a], [(Str.ofString "default", v)]⟩ := by unfold argsOk; kernel_rfl
theorem mxd_ints {l : Addr} {ys : Array (Int × Tok)} {dv : Value} {Q : Value → Shared → Prop} (hh : A.handled = none) (hl : s.heap.IsList l (intItems ys))
    (q : ∀ v h2 t2, (0 < ys.size → (intItems ys)[argBest (fun i j => decide (numAt ys i > numAt ys j)) (ys.size - 1)]? = some v) → (ys.size = 0 → v = dv) → (∀ b o, s.heap.get? b = some o → h2.get? b = some o) → Q v { s with heap := h2, toks := t2 }) :
    wpAny (model prog w) A (call (.builtin "max") [.ref l] [(Str.ofString "default", dv)]) Q E s := by
  have en : (toString "max" ++ toString ".loop" : String) = "max.loop" := by decide
  refine kmb_tree F.kind_max F.plain_max F.entry_max (args_mxd _ _) ?_
  show wpAny _ A.in1 (Builtin.Builtins.bindParams "max" ["key", "default"] 0 ⟨[], [(Str.ofString "default", dv)]⟩ >>= _) _ _ s
  refine wpAny_bind (wpAny_of_eq (show Builtin.Builtins.bindParams "max" ["key", "default"] 0 ⟨[], [(Str.ofString "default", dv)]⟩ = pure [none, some dv] from rfl) ?_)
  refine wpAny_bind (wpAny_pure ?_)
  refine wpAny_bind (iter_intList hl fun s2 e st hfp hlI => ?_)
  subst e
  refine wpAny_bind (wpAny_newObj_type ?_)
  rw [en]
  have hW := Walks.list (prog := prog) (w := w) (A := A.in1) hh s.heap.objs.size l hlI (intItems ys)
  have sz : (intItems ys).size = ys.size := by simp [intItems]
  refine wpAny_pure ⟨plainId_quiet F.plain_max_loop _, mxd_first hW _ (CmpOf.ints_gt (numAt ys) fun _ _ => intItems_at) _ (fun z => Nat.lt_irrefl _ (hfp _ z)) (hW.frame _ _ _ st fun b _ o e => Heap.get?_push_of_some _ e) (Heap.get?_push_size _ rfl) fun v h2 t2 a1 a2 k2 => ?_⟩
  refine q v h2 t2 (fun z => ?_) (fun z => a2 (by rw [sz]; exact z)) (old_kept fun b o b1 e => k2 b o b1 (Nat.ne_of_lt (Heap.lt_size e)) (Heap.get?_push_of_some _ e))
  have := a1 (by rw [sz]; exact z)
  rwa [sz] at this
end
section
variable {X : Cx} {e e2 : Expr} {p pos kpos : Pos} {ta tk : TA}
/-- max(xs, default=d) -/
def tMaxD (K : PySem.W.Frag) (ta tk : TA) : TE := fun σ H Q => ta σ H fun xs H1 => tk σ H1 fun ys H2 => ∃ (p : Addr) (ns : List Int) (d : Int), xs = [.ref p] ∧ ys = [.int d] ∧ SqL K H2 p (ns.map V.int) ∧ Q (.int (if ns.length = 0 then d else maxL ns)) H2
theorem pe_maxd (hc : X.calm = true) (hg : Gl X "max") (hm : X.mg "max" = none) (ha : PA X [e] ta) (hk : PK X [⟨some "default", e2, kpos⟩] tk) (he : starEach [e] X.env = [(false, eval e X.env)] := by rfl) :
    PE X (.Call (.Name "max" p) [e] [⟨some "default", e2, kpos⟩] pos) (tMaxD X.K ta tk) := by
  intro pins s σ H Q I h
  refine wpAny_Call_Name_kw (ld_blt I hg hm boot_max ?_ (by decide) (by decide))
  refine callWith_kw (thn (ha pos pins s σ H _ I h) fun us s1 ⟨vs, H1, I1, r1, q1⟩ => thn (hk pos pins s1 σ H1 _ I1 q1) fun us2 s2 ⟨vs2, H2, I2, r2, q2⟩ => ?_) (by rw [he]; rfl) (by rw [he]; rfl) (by rfl) (by rfl)
  obtain ⟨l, ns, d, rfl, rfl, hq, q⟩ := q2
  obtain ⟨u, rfl, rx⟩ := vals1 r1
  obtain ⟨u2, rfl, ry⟩ := vals1 r2
  cases rx
  obtain ⟨t, rfl⟩ := ry
  obtain ⟨its, r', pl, hz⟩ := I2.list hq
  have hi : IntsAre its ns := intsAre_of r'
  obtain ⟨ys, e⟩ := hi.allInts.items
  have n1 := hi.numsOf
  rw [show its = its.toArray.toList from rfl, e, nums_intItems] at n1
  have hsz : ys.size = ns.length := by rw [← n1]; simp
  have hl := pl.isList
  rw [e] at hl
  show wpAny _ _ (call (.builtin "max") [.ref l] [(Str.ofString "default", .int d t)]) _ _ s2
  refine mxd_ints (I2.ok.hd hc) hl fun v h' tk hv hd hk => ?_
  by_cases h0 : ns.length = 0
  · rw [if_pos h0] at q
    rw [hd (by omega)]
    exact ⟨.int d, H2, I2.kept hk, ⟨t, rfl⟩, q⟩
  · rw [if_neg h0] at q
    obtain ⟨t', rfl⟩ := intItems_at (hv (by omega))
    refine ⟨.int (maxL ns), H2, I2.kept hk, ⟨t', ?_⟩, q⟩
    unfold maxL
    rw [numAt_of n1, hsz]
    simp only [numAt_of n1]
end
end L2
/-! ### the kit's tree of a sort of fewer than 64 items: where each question is answered by an order, its end is sorted -/
namespace L2
open PySem PySem.Spec PyProof.Rows PySem.W
/-- what an order keeps: not less the other way round, told on -/
structure Ordr (c : Nat → Nat → Bool) : Prop where
  asym : ∀ a b, c a b = true → c b a = false
  tr : ∀ a b d, c b a = false → c d b = false → c d a = false
section
variable {c : Nat → Nat → Bool}
abbrev at0 (p : Array Nat) (i : Nat) : Nat := p.getD i 0
theorem rev_at {p : Array Nat} {i j : Nat} (hj : j ≤ p.size) (k : Nat) : at0 (kas_rev p i j) k = if i ≤ k ∧ k < j then at0 p (i + j - 1 - k) else at0 p k := by
  have h := getElem?_mirror_all (xs := p) (i := i) hj k
  have e : ∀ q : Array Nat, ∀ k, at0 q k = (q[k]?).getD 0 := fun q k => by simp [at0, Array.getD]; split <;> simp [*]
  rw [e, e, e]
  unfold kas_rev
  rw [h]
  split <;> rfl
theorem bub_at {p : Array Nat} {k d : Nat} (hk : k < p.size) (hd : d ≤ k) (i : Nat) : at0 (bubble p k d) i = if i = k - d then at0 p k else if k - d < i ∧ i ≤ k then at0 p (i - 1) else at0 p i := by
  have h := getElem?_bubble hk d hd i
  have e : ∀ q : Array Nat, ∀ k, at0 q k = (q[k]?).getD 0 := fun q k => by simp [at0, Array.getD]; split <;> simp [*]
  rw [e, e, e, e, h]
  split
  · rfl
  · split <;> rfl
end
end L2
/-! ### sorted(xs), xs a list of tuples of ints of one length: the sorted list -/
namespace L2
open PySem PySem.Spec PyProof.Rows PySem.W
theorem lexI_le : ∀ {xs ys zs : List Int}, xs.length = ys.length → ys.length = zs.length → lexI false ys xs = false → lexI false zs ys = false → lexI false zs xs = false
  | [], [], [], _, _, _, _ => rfl
  | x :: xs, y :: ys, z :: zs, h1, h2, a, b => by
    unfold lexI at a b ⊢
    by_cases e1 : y = x
    · rw [if_pos e1] at a
      by_cases e2 : z = y
      · rw [if_pos e2] at b
        rw [if_pos (e2.trans e1)]
        exact lexI_le (by simpa using h1) (by simpa using h2) a b
      · rw [if_neg e2] at b
        have := of_decide_eq_false b
        rw [if_neg (by omega)]
        exact decide_eq_false (by omega)
    · rw [if_neg e1] at a
      have a := of_decide_eq_false a
      by_cases e2 : z = y
      · rw [if_neg (by omega)]
        exact decide_eq_false (by omega)
      · rw [if_neg e2] at b
        have := of_decide_eq_false b
        rw [if_neg (by omega)]
        exact decide_eq_false (by omega)
theorem lexI_asym : ∀ {xs ys : List Int}, xs.length = ys.length → lexI false xs ys = true → lexI false ys xs = false
  | [], [], _, h => nomatch h
  | x :: xs, y :: ys, hl, h => by
    unfold lexI at h ⊢
    by_cases e : x = y
    · rw [if_pos e] at h
      rw [if_pos e.symm]
      exact lexI_asym (by simpa using hl) h
    · rw [if_neg e] at h
      have := of_decide_eq_true h
      rw [if_neg (by omega)]
      exact decide_eq_false (by omega)
theorem ltI_same {xs ys : List Int} (h : xs.length = ys.length) : ltI xs ys = lexI false xs ys := by
  unfold ltI
  rw [decide_eq_false (by omega)]
def keyC (xss : List (List Int)) (i : Nat) : List Int := xss.getD i (xss.headD [])
def ordC (xss : List (List Int)) (i j : Nat) : Bool := ltI (keyC xss i) (keyC xss j)
theorem keyC_in {xss : List (List Int)} {i : Nat} (h : i < xss.length) : keyC xss i = xss.getD i [] := by
  unfold keyC
  rw [List.getD_eq_getElem?_getD, List.getD_eq_getElem?_getD, List.getElem?_eq_getElem h]
  rfl
theorem ordC_in {xss : List (List Int)} {i j : Nat} (hi : i < xss.length) (hj : j < xss.length) : ordC xss i j = ltI (xss.getD i []) (xss.getD j []) := by
  unfold ordC
  rw [keyC_in hi, keyC_in hj]
theorem keyC_len {xss : List (List Int)} {m : Nat} (h0 : 0 < xss.length) (h : ∀ xs ∈ xss, xs.length = m) (i : Nat) : (keyC xss i).length = m := by
  unfold keyC
  rw [List.getD_eq_getElem?_getD]
  cases e : xss[i]? with
  | some x => exact h x (List.mem_of_getElem? e)
  | none =>
    cases xss with
    | nil => cases h0
    | cons x xs => exact h x (by simp)
theorem ordr_of {xss : List (List Int)} {m : Nat} (h0 : 0 < xss.length) (h : ∀ xs ∈ xss, xs.length = m) : Ordr (ordC xss) := by
  have k := keyC_len h0 h
  refine ⟨fun a b e => ?_, fun a b d e1 e2 => ?_⟩
  · unfold ordC at e ⊢
    rw [ltI_same (by rw [k, k])] at e ⊢
    exact lexI_asym (by rw [k, k]) e
  · unfold ordC at e1 e2 ⊢
    rw [ltI_same (by rw [k, k])] at e1 e2 ⊢
    exact lexI_le (by rw [k, k]) (by rw [k, k]) e1 e2
section
variable {prog : Program} {w : World} {A : Around} {E : Value → Shared → Prop} {s : Shared}
end
section
variable {X : Cx} {pins : List (Addr × Obj)} {σ : St} {H : Hp} {s : Shared}
end
end L2
/-! ### the sort of any many items, by an order: the pure walk of base_srt ends, and its end is in order -/
namespace L2
open PySem PySem.Spec PyProof.Rows PySem.W
/-- a loop that keeps I and makes m less, till F -/
theorem iter_run {γ : Type} {step : γ → Option (Bool × γ)} (I : γ → Prop) (m : γ → Nat) (F : γ → Prop)
    (hs : ∀ g, I g → ∃ r, step g = some r ∧ (r.1 = true → F r.2) ∧ (r.1 = false → I r.2 ∧ m r.2 < m g))
    (h0 : ∀ g, I g → m g = 0 → F g) : ∀ f g, I g → m g ≤ f → ∃ g', iter step f g = some g' ∧ F g'
  | 0, g, hi, hf => ⟨g, rfl, h0 g hi (by omega)⟩
  | f + 1, g, hi, hf => by
    obtain ⟨r, e, h1, h2⟩ := hs g hi
    unfold iter
    rw [e, Option.bind_some]
    cases hr : r.1 with
    | true => exact ⟨r.2, by simp, h1 hr⟩
    | false =>
      obtain ⟨h3, h4⟩ := h2 hr
      obtain ⟨g', e', h⟩ := iter_run I m F hs h0 f r.2 h3 (by omega)
      exact ⟨g', by simp [e'], h⟩
def bey (lt : Nat → Nat → Bool) (left : Bool) (key v : Nat) : Bool := if left = true then lt v key else !lt key v
def cT (lt : Nat → Nat → Bool) (i j : Nat) : Option Bool := some (lt i j)
theorem at0_get {p : Array Nat} {i : Nat} (h : i < p.size) : p[i]? = some (at0 p i) := by
  rw [Array.getElem?_eq_getElem h]
  simp [at0, Array.getD, h]
theorem bey_at {lt : Nat → Nat → Bool} {left : Bool} {key : Nat} {arr : Array Nat} {i : Nat} (h : i < arr.size) : gBey (cT lt) left key arr i = some (bey lt left key (at0 arr i)) := by
  unfold gBey bey cT
  rw [at0_get h, Option.bind_some]
  cases left <;> rfl
theorem gal_ok {lt : Nat → Nat → Bool} {left : Bool} {key : Nat} {arr : Array Nat} {base n hint : Nat} (hn : hint < n) (hs : base + n ≤ arr.size)
    (mono : ∀ i j, i < j → j < n → bey lt left key (at0 arr (base + j)) = true → bey lt left key (at0 arr (base + i)) = true) :
    ∃ k, gal (cT lt) left key arr base n hint = some k ∧ k ≤ n ∧ (∀ i, i < k → bey lt left key (at0 arr (base + i)) = true) ∧ ∀ i, k ≤ i → i < n → bey lt left key (at0 arr (base + i)) = false := by
  have bq : ∀ i, i < n → gBey (cT lt) left key arr (base + i) = some (bey lt left key (at0 arr (base + i))) := fun i h => bey_at (by omega)
  generalize hq : (fun i => gBey (cT lt) left key arr (base + i)) = q at *
  have bq : ∀ i, i < n → q i = some (bey lt left key (at0 arr (base + i))) := fun i h => by rw [← hq]; exact bq i h
  generalize hb : (fun i => bey lt left key (at0 arr (base + i))) = b at *
  have mono : ∀ i j, i ≤ j → j < n → b j = true → b i = true := fun i j h1 h2 h3 => by
    rw [← hb] at h3 ⊢
    by_cases e : i = j
    · rw [e]; exact h3
    · exact mono i j (by omega) h2 h3
  have bq : ∀ i, i < n → q i = some (b i) := fun i h => by rw [← hb]; exact bq i h
  have goal : ∃ k, gal (cT lt) left key arr base n hint = some k ∧ k ≤ n ∧ (∀ i, i < k → b i = true) ∧ ∀ i, k ≤ i → i < n → b i = false := by
    have e0 : gBey (cT lt) left key arr (base + hint) = some (b hint) := by rw [← bq hint hn, ← hq]
    have bis : ∀ lh : Nat × Nat, lh.1 ≤ lh.2 → lh.2 ≤ n → (∀ i, i < lh.1 → b i = true) → (∀ i, lh.2 ≤ i → i < n → b i = false) → ∃ k, (iter (gBis q) n lh).map (·.2) = some k ∧ k ≤ n ∧ (∀ i, i < k → b i = true) ∧ ∀ i, k ≤ i → i < n → b i = false := by
      intro lh h1 h2 h3 h4
      obtain ⟨g, e, f⟩ := iter_run (step := gBis q) (fun g => g.1 ≤ g.2 ∧ g.2 ≤ n ∧ (∀ i, i < g.1 → b i = true) ∧ ∀ i, g.2 ≤ i → i < n → b i = false) (fun g => g.2 - g.1) (fun g => g.2 ≤ n ∧ (∀ i, i < g.2 → b i = true) ∧ ∀ i, g.2 ≤ i → i < n → b i = false) (fun g ⟨a1, a2, a3, a4⟩ => by
        unfold gBis
        by_cases z : g.1 ≥ g.2
        · exact ⟨_, if_pos z, fun _ => ⟨a2, fun i (hi : i < g.2) => a3 i (by omega), a4⟩, fun h => by cases h⟩
        · rw [if_neg z, bq _ (by omega), Option.map_some]
          refine ⟨_, rfl, fun h => ?_, fun h => ?_⟩
          · split at h <;> cases h
          · cases hm : b (g.1 + (g.2 - g.1) / 2) with
            | true =>
              simp only [if_true]
              exact ⟨⟨by omega, a2, fun i hi => mono i (g.1 + (g.2 - g.1) / 2) (by omega) (by omega) hm, a4⟩, by omega⟩
            | false =>
              simp only [Bool.false_eq_true, if_false]
              refine ⟨⟨by omega, by omega, a3, fun i h1 h2 => ?_⟩, by omega⟩
              cases hi : b i with
              | false => rfl
              | true => rw [mono _ i h1 h2 hi] at hm; cases hm) (fun g ⟨a1, a2, a3, a4⟩ z => ⟨a2, fun i hi => a3 i (by omega), a4⟩) n lh ⟨h1, h2, h3, h4⟩ (by omega)
      exact ⟨g.2, by rw [e]; rfl, f⟩
    unfold gal
    rw [e0, Option.bind_some]
    rw [show (fun i => gBey (cT lt) left key arr (base + i)) = q from hq]
    cases hh : b hint with
    | true =>
      rw [if_pos rfl]
      obtain ⟨g, e, f1, f2, f3, f4⟩ := iter_run (step := gUp (fun o => gBey (cT lt) left key arr (base + (hint + o))) (n - hint)) (fun g => g.1 < g.2 ∧ g.1 < n - hint ∧ b (hint + g.1) = true) (fun g => (n - hint) - g.2) (fun g => g.1 < g.2 ∧ g.1 < n - hint ∧ b (hint + g.1) = true ∧ (g.2 < n - hint → b (hint + g.2) = false)) (fun g ⟨a1, a2, a3⟩ => by
        unfold gUp
        by_cases z : g.2 ≥ n - hint
        · exact ⟨_, if_pos z, fun _ => ⟨a1, a2, a3, fun h => by dsimp only at h; omega⟩, fun h => by cases h⟩
        · rw [if_neg z, show (fun o => gBey (cT lt) left key arr (base + (hint + o))) g.2 = q (hint + g.2) by rw [← hq], bq _ (by omega), Option.map_some]
          refine ⟨_, rfl, ?_⟩
          cases hm : b (hint + g.2) with
          | true =>
            rw [if_pos rfl]
            exact ⟨fun h => (by cases h), fun _ => ⟨⟨by dsimp only; omega, by dsimp only; omega, hm⟩, by dsimp only; omega⟩⟩
          | false =>
            rw [if_neg Bool.false_ne_true]
            exact ⟨fun _ => ⟨a1, a2, a3, fun _ => hm⟩, fun h => by cases h⟩) (fun g ⟨a1, a2, a3⟩ z => ⟨a1, a2, a3, fun h => by omega⟩) n (0, 1) ⟨by decide, by dsimp only; omega, hh⟩ (by dsimp only; omega)
      rw [e, Option.map_some, Option.bind_some]
      refine bis _ (by dsimp only; omega) (by dsimp only; omega) (fun i hi => mono i (hint + g.1) (by dsimp only at hi; omega) (by omega) f3) fun i h1 h2 => ?_
      dsimp only at h1
      cases hi : b i with
      | false => rfl
      | true =>
        have := f4 (by omega)
        rw [mono (hint + g.2) i (by omega) h2 hi] at this
        cases this
    | false =>
      rw [if_neg (by simp)]
      obtain ⟨g, e, f1, f2, f3, f4⟩ := iter_run (step := gDn (fun o => gBey (cT lt) left key arr (base + (hint - o))) (hint + 1)) (fun g => g.1 < g.2 ∧ g.1 < hint + 1 ∧ b (hint - g.1) = false) (fun g => (hint + 1) - g.2) (fun g => g.1 < g.2 ∧ g.1 < hint + 1 ∧ b (hint - g.1) = false ∧ (g.2 < hint + 1 → b (hint - g.2) = true)) (fun g ⟨a1, a2, a3⟩ => by
        unfold gDn
        by_cases z : g.2 ≥ hint + 1
        · exact ⟨_, if_pos z, fun _ => ⟨a1, a2, a3, fun h => by dsimp only at h; omega⟩, fun h => by cases h⟩
        · rw [if_neg z, show (fun o => gBey (cT lt) left key arr (base + (hint - o))) g.2 = q (hint - g.2) by rw [← hq], bq _ (by omega), Option.map_some]
          refine ⟨_, rfl, ?_⟩
          cases hm : b (hint - g.2) with
          | true =>
            rw [if_pos rfl]
            exact ⟨fun _ => ⟨a1, a2, a3, fun _ => hm⟩, fun h => by cases h⟩
          | false =>
            rw [if_neg Bool.false_ne_true]
            exact ⟨fun h => (by cases h), fun _ => ⟨⟨by dsimp only; omega, by dsimp only; omega, hm⟩, by dsimp only; omega⟩⟩) (fun g ⟨a1, a2, a3⟩ z => ⟨a1, a2, a3, fun h => by omega⟩) n (0, 1) ⟨by decide, by dsimp only; omega, hh⟩ (by dsimp only; omega)
      rw [e, Option.map_some, Option.bind_some]
      refine bis _ (by dsimp only; omega) (by dsimp only; omega) (fun i hi => ?_) fun i h1 h2 => ?_
      · dsimp only at hi
        exact mono i (hint - g.2) (by omega) (by omega) (f4 (by omega))
      · dsimp only at h1
        cases hi : b i with
        | false => rfl
        | true => rw [mono (hint - g.1) i (by omega) h2 hi] at f3; cases f3
  rw [← hb] at goal
  exact goal
end L2
namespace L2
open PySem PySem.Spec PyProof.Rows PySem.W
/-- in order -/
abbrev Srt (lt : Nat → Nat → Bool) (l : List Nat) : Prop := l.Pairwise fun x y => lt y x = false
theorem Srt.app {lt : Nat → Nat → Bool} {xs ys : List Nat} : Srt lt (xs ++ ys) ↔ Srt lt xs ∧ Srt lt ys ∧ ∀ x ∈ xs, ∀ y ∈ ys, lt y x = false := List.pairwise_append
theorem Srt.con {lt : Nat → Nat → Bool} {x : Nat} {ys : List Nat} : Srt lt (x :: ys) ↔ (∀ y ∈ ys, lt y x = false) ∧ Srt lt ys := List.pairwise_cons
/-- a merge under way: what is out, and what is left of both -/
def Mg (lt : Nat → Nat → Bool) (a b out A B : List Nat) : Prop := (out ++ A ++ B).Perm (a ++ b) ∧ Srt lt (out ++ A) ∧ Srt lt (out ++ B)
section
variable {lt : Nat → Nat → Bool} {a b out A B : List Nat}
theorem Mg.bs (O : Ordr lt) {x : Nat} {C : List Nat} (h : Mg lt a b out (x :: A) (B ++ C)) (hb : ∀ y ∈ B, lt y x = true) : Mg lt a b (out ++ B) (x :: A) C := by
  obtain ⟨h1, h2, h3⟩ := h
  refine ⟨?_, ?_, by rw [List.append_assoc]; exact h3⟩
  · refine List.Perm.trans ?_ h1
    rw [List.append_assoc, List.append_assoc, List.append_assoc]
    refine List.Perm.append_left out ?_
    rw [← List.append_assoc, ← List.append_assoc]
    exact List.Perm.append_right C List.perm_append_comm
  · rw [Srt.app] at h2 h3
    obtain ⟨a1, a2, a3⟩ := h2
    obtain ⟨b1, b2, b3⟩ := h3
    rw [Srt.app] at b2
    rw [Srt.app, Srt.app]
    refine ⟨⟨b1, b2.1, fun x hx y hy => b3 x hx y (List.mem_append_left _ hy)⟩, a2, fun z hz y hy => ?_⟩
    rcases List.mem_append.mp hz with hz | hz
    · exact a3 z hz y hy
    · have e := O.asym _ _ (hb z hz)
      rcases List.mem_cons.mp hy with rfl | hy
      · exact e
      · exact O.tr _ _ _ e ((Srt.con.mp a2).1 y hy)
theorem Mg.as (O : Ordr lt) {y : Nat} {C : List Nat} (h : Mg lt a b out (A ++ C) (y :: B)) (ha : ∀ x ∈ A, lt y x = false) : Mg lt a b (out ++ A) C (y :: B) := by
  obtain ⟨h1, h2, h3⟩ := h
  refine ⟨?_, by rw [List.append_assoc]; exact h2, ?_⟩
  · rw [List.append_assoc out]; exact h1
  · rw [Srt.app] at h2 h3
    obtain ⟨a1, a2, a3⟩ := h2
    obtain ⟨b1, b2, b3⟩ := h3
    rw [Srt.app] at a2
    rw [Srt.app, Srt.app]
    refine ⟨⟨b1, a2.1, fun x hx y hy => a3 x hx y (List.mem_append_left _ hy)⟩, b2, fun z hz x hx => ?_⟩
    rcases List.mem_append.mp hz with hz | hz
    · exact b3 z hz x hx
    · rcases List.mem_cons.mp hx with rfl | hx
      · exact ha z hz
      · exact O.tr _ _ _ (ha z hz) ((Srt.con.mp b2).1 x hx)
theorem Mg.b1 (O : Ordr lt) {x y : Nat} (h : Mg lt a b out (x :: A) (y :: B)) (e : lt y x = true) : Mg lt a b (out ++ [y]) (x :: A) B :=
  Mg.bs O (B := [y]) (C := B) h fun z hz => by rw [List.mem_singleton.mp hz]; exact e
theorem Mg.a1 (O : Ordr lt) {x y : Nat} (h : Mg lt a b out (x :: A) (y :: B)) (e : lt y x = false) : Mg lt a b (out ++ [x]) A (y :: B) :=
  Mg.as O (A := [x]) (C := A) h fun z hz => by rw [List.mem_singleton.mp hz]; exact e
/-- what a merge is to tell -/
def Mgd (lt : Nat → Nat → Bool) (a b r : List Nat) : Prop := r.Perm (a ++ b) ∧ Srt lt r
theorem Mg.doneA (h : Mg lt a b out A []) : Mgd lt a b (out ++ A ++ []) := ⟨h.1, by rw [List.append_nil]; exact h.2.1⟩
theorem Mg.doneB (h : Mg lt a b out [] B) : Mgd lt a b (out ++ [] ++ B) := ⟨h.1, by rw [List.append_nil]; exact h.2.2⟩
theorem Mg.last (O : Ordr lt) {x : Nat} (h : Mg lt a b out [x] B) (hb : ∀ y ∈ B, lt y x = true) : Mgd lt a b (out ++ B ++ [x]) := by
  have k := Mg.bs O (A := []) (B := B) (C := []) (by rw [List.append_nil]; exact h) hb
  have := k.doneA
  rwa [List.append_nil] at this
theorem ext_list (p : Array Nat) (i j : Nat) : (p.extract i j).toList = (p.toList.drop i).take (j - i) := by
  rw [Array.toList_extract, List.extract_eq_take_drop]
theorem drop_at {p : Array Nat} {i : Nat} (h : i < p.size) : p.toList.drop i = at0 p i :: p.toList.drop (i + 1) := by
  rw [List.drop_eq_getElem_cons (by simpa using h)]
  simp [at0, Array.getD, h]
theorem drop_cut (p : Array Nat) (i k : Nat) : p.toList.drop i = (p.extract i (i + k)).toList ++ p.toList.drop (i + k) := by
  rw [ext_list, Nat.add_sub_cancel_left, ← List.drop_drop, List.take_append_drop]
theorem mem_ext {p : Array Nat} {i k x : Nat} (h : x ∈ (p.extract i (i + k)).toList) : ∃ j, j < k ∧ i + j < p.size ∧ x = at0 p (i + j) := by
  rw [ext_list, Nat.add_sub_cancel_left] at h
  obtain ⟨j, hj, e⟩ := List.mem_iff_getElem.mp h
  have hj' := hj
  rw [List.length_take, List.length_drop, Array.length_toList] at hj'
  refine ⟨j, by omega, by omega, ?_⟩
  rw [← e]
  simp [at0, Array.getD, show i + j < p.size by omega]
theorem drop_end {p : Array Nat} {i : Nat} (h : p.size ≤ i) : p.toList.drop i = [] := List.drop_eq_nil_of_le (by simpa using h)
theorem ext_all (p : Array Nat) (i : Nat) : (p.extract i p.size).toList = p.toList.drop i := by
  rw [ext_list]
  exact List.take_of_length_le (by simp)
theorem loDone_l (a b out : Array Nat) (ia ib : Nat) : (loDone a b out ia ib).toList = out.toList ++ a.toList.drop ia ++ b.toList.drop ib := by
  unfold loDone
  rw [Array.toList_append, Array.toList_append, ext_all, ext_all]
theorem loLast_l (a b out : Array Nat) (ia ib : Nat) : (loLast a b out ia ib).toList = out.toList ++ b.toList.drop ib ++ a.toList.drop ia := by
  unfold loLast
  rw [Array.toList_append, Array.toList_append, ext_all, ext_all]
/-- a segment in order, by places -/
theorem srt_at {p : Array Nat} (h : Srt lt p.toList) {i j : Nat} (hij : i < j) (hj : j < p.size) : lt (at0 p j) (at0 p i) = false := by
  have := List.pairwise_iff_getElem.mp h i j (by simpa using (by omega : i < p.size)) (by simpa using hj) hij
  simpa [at0, Array.getD, hj, show i < p.size by omega] using this
end
section
variable {lt : Nat → Nat → Bool} {a b : Array Nat}
def JN (lt : Nat → Nat → Bool) (a b out : Array Nat) (ia ib : Nat) : Prop := Mg lt a.toList b.toList out.toList (a.toList.drop ia) (b.toList.drop ib) ∧ ia + 2 ≤ a.size ∧ ib + 1 ≤ b.size
def JL (lt : Nat → Nat → Bool) (a b : Array Nat) (o : Option (Array Nat)) (out : Array Nat) (ia ib : Nat) : Prop := (∀ r, o = some r → Mgd lt a.toList b.toList r.toList) ∧ (o = none → JN lt a b out ia ib)
theorem JL.some {r out : Array Nat} {ia ib : Nat} (h : Mgd lt a.toList b.toList r.toList) : JL lt a b (some r) out ia ib := ⟨fun _ e => by cases e; exact h, fun e => by cases e⟩
theorem JL.none {out : Array Nat} {ia ib : Nat} (h : JN lt a b out ia ib) : JL lt a b none out ia ib := ⟨fun _ e => (by cases e), fun _ => h⟩
theorem beq_of {x y : Nat} (h : x = y) : (x == y) = true := by rw [h]; exact beq_self_eq_true y
variable (O : Ordr lt) (hl : ∀ y ∈ b.toList, lt y (at0 a (a.size - 1)) = true)
include O hl
theorem last_ok {out : Array Nat} {ia ib : Nat} (h : Mg lt a.toList b.toList out.toList (a.toList.drop ia) (b.toList.drop ib)) (e : ia + 1 = a.size) : Mgd lt a.toList b.toList (loLast a b out ia ib).toList := by
  rw [loLast_l]
  rw [drop_at (p := a) (by omega), drop_end (p := a) (by omega)] at h ⊢
  refine h.last O fun y hy => ?_
  rw [show ia = a.size - 1 by omega]
  exact hl y (List.mem_of_mem_drop hy)
theorem doneB_ok {out : Array Nat} {ia ib : Nat} (h : Mg lt a.toList b.toList out.toList (a.toList.drop ia) (b.toList.drop ib)) (e : ib = b.size) : Mgd lt a.toList b.toList (loDone a b out ia ib).toList := by
  rw [loDone_l]
  rw [drop_end (p := b) (by omega)] at h ⊢
  exact h.doneA
theorem doneA_ok {out : Array Nat} {ia ib : Nat} (h : Mg lt a.toList b.toList out.toList (a.toList.drop ia) (b.toList.drop ib)) (e : ia = a.size) : Mgd lt a.toList b.toList (loDone a b out ia ib).toList := by
  rw [loDone_l]
  rw [drop_end (p := a) (by omega)] at h ⊢
  exact h.doneB
/-- one more of b -/
theorem stepB {out : Array Nat} {ia ib : Nat} (h : Mg lt a.toList b.toList out.toList (a.toList.drop ia) (b.toList.drop ib)) (ha : ia < a.size) (hb : ib < b.size) (e : lt (at0 b ib) (at0 a ia) = true) : Mg lt a.toList b.toList (out.push (at0 b ib)).toList (a.toList.drop ia) (b.toList.drop (ib + 1)) := by
  rw [Array.toList_push]
  rw [drop_at ha, drop_at hb] at h
  rw [drop_at ha]
  exact h.b1 O e
theorem stepA {out : Array Nat} {ia ib : Nat} (h : Mg lt a.toList b.toList out.toList (a.toList.drop ia) (b.toList.drop ib)) (ha : ia < a.size) (hb : ib < b.size) (e : lt (at0 b ib) (at0 a ia) = false) : Mg lt a.toList b.toList (out.push (at0 a ia)).toList (a.toList.drop (ia + 1)) (b.toList.drop ib) := by
  rw [Array.toList_push]
  rw [drop_at ha, drop_at hb] at h
  rw [drop_at hb]
  exact h.a1 O e
theorem stepBs {out : Array Nat} {ia ib k : Nat} (h : Mg lt a.toList b.toList out.toList (a.toList.drop ia) (b.toList.drop ib)) (ha : ia < a.size) (e : ∀ i, i < k → lt (at0 b (ib + i)) (at0 a ia) = true) : Mg lt a.toList b.toList (out ++ b.extract ib (ib + k)).toList (a.toList.drop ia) (b.toList.drop (ib + k)) := by
  rw [Array.toList_append]
  rw [drop_at ha, drop_cut b ib k] at h
  rw [drop_at ha]
  refine h.bs O fun y hy => ?_
  obtain ⟨j, hj, _, rfl⟩ := mem_ext hy
  exact e j hj
theorem stepAs {out : Array Nat} {ia ib k : Nat} (h : Mg lt a.toList b.toList out.toList (a.toList.drop ia) (b.toList.drop ib)) (hb : ib < b.size) (e : ∀ i, i < k → lt (at0 b ib) (at0 a (ia + i)) = false) : Mg lt a.toList b.toList (out ++ a.extract ia (ia + k)).toList (a.toList.drop (ia + k)) (b.toList.drop ib) := by
  rw [Array.toList_append]
  rw [drop_at hb, drop_cut a ia k] at h
  rw [drop_at hb]
  refine h.as O fun y hy => ?_
  obtain ⟨j, hj, _, rfl⟩ := mem_ext hy
  exact e j hj
theorem lo1_ok {mg : Nat} {g : G1} (h : JN lt a b g.2.1 g.2.2.1 g.2.2.2.1) : ∃ r, lo1 (cT lt) a b mg g = some r ∧ JL lt a b r.2.1 r.2.2.1 r.2.2.2.1 r.2.2.2.2.1 ∧ (r.1 = false → r.2.1 = none) ∧ (r.2.1 = none → g.2.2.1 + g.2.2.2.1 < r.2.2.2.1 + r.2.2.2.2.1) := by
  obtain ⟨o, out, ia, ib, x, y⟩ := g
  obtain ⟨h1, h2, h3⟩ := h
  dsimp only at *
  unfold lo1
  dsimp only
  rw [at0_get (by omega), Option.bind_some, at0_get (by omega), Option.bind_some]
  unfold cT
  rw [Option.bind_some]
  cases e : lt (at0 b ib) (at0 a ia) with
  | true =>
    have s := stepB O hl h1 (by omega) (by omega) e
    rw [if_pos rfl]
    by_cases e1 : (ib + 1 == b.size) = true
    · rw [if_pos e1]
      exact ⟨_, rfl, JL.some (doneB_ok O hl s (beq_iff_eq.mp e1)), fun z => (by cases z), fun z => (by cases z)⟩
    · have e1' : ib + 1 ≠ b.size := fun z => e1 (beq_of z)
      rw [if_neg e1]
      split
      · exact ⟨_, rfl, JL.none ⟨s, h2, by dsimp only; omega⟩, fun _ => rfl, fun _ => by dsimp only; omega⟩
      · exact ⟨_, rfl, JL.none ⟨s, h2, by dsimp only; omega⟩, fun _ => rfl, fun _ => by dsimp only; omega⟩
  | false =>
    have s := stepA O hl h1 (by omega) (by omega) e
    rw [if_neg Bool.false_ne_true]
    by_cases e1 : (ia + 1 + 1 == a.size) = true
    · rw [if_pos e1]
      exact ⟨_, rfl, JL.some (last_ok O hl s (beq_iff_eq.mp e1)), fun z => (by cases z), fun z => (by cases z)⟩
    · have e1' : ia + 1 + 1 ≠ a.size := fun z => e1 (beq_of z)
      rw [if_neg e1]
      split
      · exact ⟨_, rfl, JL.none ⟨s, by dsimp only; omega, h3⟩, fun _ => rfl, fun _ => by dsimp only; omega⟩
      · exact ⟨_, rfl, JL.none ⟨s, by dsimp only; omega, h3⟩, fun _ => rfl, fun _ => by dsimp only; omega⟩
theorem lo3c_ok {out : Array Nat} {ia ib mg k k2 n : Nat} (h : Mg lt a.toList b.toList out.toList (a.toList.drop ia) (b.toList.drop ib)) (h2 : ia + 2 ≤ a.size) (h3 : ib + 1 ≤ b.size) (e : lt (at0 b ib) (at0 a ia) = false) (hn : n ≤ ia + ib) : ∃ r, lo3c a b out (at0 a ia) ia ib mg k k2 = some r ∧ JL lt a b r.2.1.1 r.2.1.2.1 r.2.1.2.2.1 r.2.1.2.2.2.1 ∧ (r.1 = false → r.2.1.1 = none) ∧ (r.2.1.1 = none → n < r.2.1.2.2.1 + r.2.1.2.2.2.1) := by
  have s := stepA O hl h (by omega) (by omega) e
  unfold lo3c
  by_cases e1 : (ia + 1 + 1 == a.size) = true
  · rw [if_pos e1]
    exact ⟨_, rfl, JL.some (last_ok O hl s (beq_iff_eq.mp e1)), fun z => (by cases z), fun z => (by cases z)⟩
  · have e1' : ia + 1 + 1 ≠ a.size := fun z => e1 (beq_of z)
    rw [if_neg e1]
    split
    · exact ⟨_, rfl, JL.none ⟨s, by dsimp only; omega, h3⟩, fun _ => rfl, fun _ => by dsimp only; omega⟩
    · exact ⟨_, rfl, JL.none ⟨s, by dsimp only; omega, h3⟩, fun _ => rfl, fun _ => by dsimp only; omega⟩
theorem lo3b_ok (sb : Srt lt b.toList) {out : Array Nat} {ia ib mg k bc n : Nat} (h : Mg lt a.toList b.toList out.toList (a.toList.drop ia) (b.toList.drop ib)) (h2 : ia + 2 ≤ a.size) (h3 : ib + 1 ≤ b.size) (e : lt (at0 b ib) (at0 a ia) = true) (hn : n ≤ ia + ib) : ∃ r, lo3b (cT lt) a b out (at0 b ib) ia ib mg k bc = some r ∧ JL lt a b r.2.1.1 r.2.1.2.1 r.2.1.2.2.1 r.2.1.2.2.2.1 ∧ (r.1 = false → r.2.1.1 = none) ∧ (r.2.1.1 = none → n < r.2.1.2.2.1 + r.2.1.2.2.2.1) := by
  have s := stepB O hl h (by omega) (by omega) e
  unfold lo3b
  by_cases e1 : (ib + 1 == b.size) = true
  · rw [if_pos e1]
    exact ⟨_, rfl, JL.some (doneB_ok O hl s (beq_iff_eq.mp e1)), fun z => (by cases z), fun z => (by cases z)⟩
  have e1' : ib + 1 ≠ b.size := fun z => e1 (beq_of z)
  rw [if_neg e1, at0_get (by omega), Option.bind_some]
  obtain ⟨k2, f0, f1, f2, f3⟩ := gal_ok (lt := lt) (left := true) (key := at0 a ia) (arr := b) (base := ib + 1) (n := b.size - (ib + 1)) (hint := 0) (by omega) (by omega) (fun i j hij hj q => by
    unfold bey at q ⊢
    rw [if_pos rfl] at q ⊢
    cases w : lt (at0 b (ib + 1 + i)) (at0 a ia) with
    | true => rfl
    | false =>
      have := O.tr _ _ _ w (srt_at sb (show ib + 1 + i < ib + 1 + j by omega) (by omega))
      rw [q] at this; cases this)
  unfold bey at f2 f3
  simp only [if_true] at f2 f3
  rw [f0, Option.bind_some]
  by_cases e2 : k2 > 0
  · rw [if_pos e2]
    have s2 := stepBs O hl s (by omega) f2
    by_cases e3 : (ib + 1 + k2 == b.size) = true
    · rw [if_pos e3]
      exact ⟨_, rfl, JL.some (doneB_ok O hl s2 (beq_iff_eq.mp e3)), fun z => (by cases z), fun z => (by cases z)⟩
    · have e3' : ib + 1 + k2 ≠ b.size := fun z => e3 (beq_of z)
      rw [if_neg e3]
      exact lo3c_ok O hl s2 h2 (by omega) (f3 k2 (Nat.le_refl _) (by omega)) (by omega)
  · rw [if_neg e2]
    obtain rfl : k2 = 0 := by omega
    exact lo3c_ok O hl s h2 (by omega) (f3 0 (Nat.le_refl _) (by omega)) (by omega)
theorem lo3a_ok (sa : Srt lt a.toList) (sb : Srt lt b.toList) {out : Array Nat} {ia ib mg bc : Nat} (h : JN lt a b out ia ib) : ∃ r, lo3a (cT lt) a b out ia ib mg bc = some r ∧ JL lt a b r.2.1.1 r.2.1.2.1 r.2.1.2.2.1 r.2.1.2.2.2.1 ∧ (r.1 = false → r.2.1.1 = none) ∧ (r.2.1.1 = none → ia + ib < r.2.1.2.2.1 + r.2.1.2.2.2.1) := by
  obtain ⟨h1, h2, h3⟩ := h
  unfold lo3a
  rw [at0_get (by omega), Option.bind_some]
  obtain ⟨k, f0, f1, f2, f3⟩ := gal_ok (lt := lt) (left := false) (key := at0 b ib) (arr := a) (base := ia) (n := a.size - ia) (hint := 0) (by omega) (by omega) (fun i j hij hj q => by
    unfold bey at q ⊢
    rw [if_neg Bool.false_ne_true] at q ⊢
    have q : lt (at0 b ib) (at0 a (ia + j)) = false := by simpa using q
    rw [O.tr _ _ _ (srt_at sa (show ia + i < ia + j by omega) (by omega)) q]
    rfl)
  unfold bey at f2 f3
  simp only [Bool.false_eq_true, if_false, Bool.not_eq_true', Bool.not_eq_false'] at f2 f3
  rw [f0, Option.bind_some]
  by_cases e2 : k > 0
  · rw [if_pos e2]
    have s := stepAs O hl h1 (by omega) f2
    by_cases e3 : (ia + k + 1 == a.size) = true
    · rw [if_pos e3]
      exact ⟨_, rfl, JL.some (last_ok O hl s (beq_iff_eq.mp e3)), fun z => (by cases z), fun z => (by cases z)⟩
    have e3' : ia + k + 1 ≠ a.size := fun z => e3 (beq_of z)
    rw [if_neg e3]
    by_cases e4 : (ia + k == a.size) = true
    · rw [if_pos e4]
      exact ⟨_, rfl, JL.some (doneA_ok O hl s (beq_iff_eq.mp e4)), fun z => (by cases z), fun z => (by cases z)⟩
    have e4' : ia + k ≠ a.size := fun z => e4 (beq_of z)
    rw [if_neg e4]
    exact lo3b_ok O hl sb s (by omega) h3 (f3 k (Nat.le_refl _) (by omega)) (by omega)
  · rw [if_neg e2]
    obtain rfl : k = 0 := by omega
    exact lo3b_ok O hl sb h1 h2 h3 (f3 0 (Nat.le_refl _) (by omega)) (by omega)
theorem lo3_ok (sa : Srt lt a.toList) (sb : Srt lt b.toList) {g : G3} (h : JN lt a b g.1.2.1 g.1.2.2.1 g.1.2.2.2.1) : ∃ r, lo3 (cT lt) a b g = some r ∧ JL lt a b r.2.1.1 r.2.1.2.1 r.2.1.2.2.1 r.2.1.2.2.2.1 ∧ (r.1 = false → r.2.1.1 = none) ∧ (r.2.1.1 = none → g.1.2.2.1 + g.1.2.2.2.1 < r.2.1.2.2.1 + r.2.1.2.2.2.1) := by
  unfold lo3
  split <;> exact lo3a_ok O hl sa sb h
theorem lo0_ok (sa : Srt lt a.toList) (sb : Srt lt b.toList) {g : G0} (h : JN lt a b g.1.2.1 g.1.2.2.1 g.1.2.2.2.1) : ∃ r, lo0 (cT lt) a b g = some r ∧ JL lt a b r.2.1.1 r.2.1.2.1 r.2.1.2.2.1 r.2.1.2.2.2.1 ∧ (r.2.1.1 ≠ none → r.1 = true) ∧ (r.2.1.1 = none → r.1 = false ∧ g.1.2.2.1 + g.1.2.2.2.1 < r.2.1.2.2.1 + r.2.1.2.2.2.1) := by
  unfold lo0
  obtain ⟨t, e, ht, ht2⟩ := iter_run (step := lo1 (cT lt) a b g.1.2.2.2.2) (fun u => JN lt a b u.2.1 u.2.2.1 u.2.2.2.1 ∧ g.1.2.2.1 + g.1.2.2.2.1 ≤ u.2.2.1 + u.2.2.2.1) (fun u => a.size + b.size - (u.2.2.1 + u.2.2.2.1)) (fun u => JL lt a b u.1 u.2.1 u.2.2.1 u.2.2.2.1 ∧ (u.1 = none → g.1.2.2.1 + g.1.2.2.2.1 < u.2.2.1 + u.2.2.2.1)) (fun u ⟨hu, hu2⟩ => by
    obtain ⟨r, e, h1, h2, h3⟩ := lo1_ok O hl (mg := g.1.2.2.2.2) hu
    refine ⟨r, e, fun _ => ⟨h1, fun z => by have := h3 z; omega⟩, fun z => ?_⟩
    have z2 := h2 z
    have h4 := h3 z2
    have h5 := h1.2 z2
    exact ⟨⟨h5, by omega⟩, by have := h5.2; omega⟩) (fun u ⟨hu, hu2⟩ z => by have := hu.2; omega) (a.size + b.size) (none, g.1.2.1, g.1.2.2.1, g.1.2.2.2.1, 0, 0) ⟨h, Nat.le_refl _⟩ (by dsimp only; omega)
  rw [e, Option.bind_some]
  cases et : t.1 with
  | some r =>
    rw [et] at ht
    exact ⟨_, rfl, JL.some (ht.1 r rfl), fun _ => rfl, fun z => (by cases z)⟩
  | none =>
    have ht := ht.2 et
    have ht2 := ht2 et
    dsimp only
    obtain ⟨u, e2, hu, hu2⟩ := iter_run (step := lo3 (cT lt) a b) (fun u => JN lt a b u.1.2.1 u.1.2.2.1 u.1.2.2.2.1 ∧ t.2.2.1 + t.2.2.2.1 ≤ u.1.2.2.1 + u.1.2.2.2.1) (fun u => a.size + b.size - (u.1.2.2.1 + u.1.2.2.2.1)) (fun u => JL lt a b u.1.1 u.1.2.1 u.1.2.2.1 u.1.2.2.2.1 ∧ (u.1.1 = none → t.2.2.1 + t.2.2.2.1 < u.1.2.2.1 + u.1.2.2.2.1)) (fun u ⟨hu, hu2⟩ => by
      obtain ⟨r, e, h1, h2, h3⟩ := lo3_ok O hl sa sb hu
      refine ⟨r, e, fun _ => ⟨h1, fun z => by have := h3 z; omega⟩, fun z => ?_⟩
      have z2 := h2 z
      have h4 := h3 z2
      have h5 := h1.2 z2
      exact ⟨⟨h5, by omega⟩, by have := h5.2; omega⟩) (fun u ⟨hu, hu2⟩ z => by have := hu.2; omega) (a.size + b.size) ((none, t.2.1, t.2.2.1, t.2.2.2.1, g.1.2.2.2.2 + 1, t.2.2.2.2.1, t.2.2.2.2.2), g.2) ⟨ht, Nat.le_refl _⟩ (by dsimp only; omega)
    rw [e2, Option.map_some]
    cases eu : u.1.1 with
    | some r => exact ⟨_, rfl, JL.some (hu.1 r eu), fun _ => rfl, fun z => (by cases z)⟩
    | none => exact ⟨_, rfl, JL.none (hu.2 eu), fun z => absurd rfl z, fun _ => ⟨rfl, by have := hu2 eu; dsimp only; omega⟩⟩
/-- the merge from the left -/
theorem mLo_ok (sa : Srt lt a.toList) (sb : Srt lt b.toList) (ha : 0 < a.size) (hb : 0 < b.size) (h0 : lt (at0 b 0) (at0 a 0) = true) (sg : Nat) : ∃ r, mLo (cT lt) a b sg = some r ∧ Mgd lt a.toList b.toList r.1.toList := by
  have s0 : Mg lt a.toList b.toList (#[] : Array Nat).toList (a.toList.drop 0) (b.toList.drop 0) := ⟨List.Perm.refl _, sa, sb⟩
  have s := stepB O hl s0 ha hb h0
  have s : Mg lt a.toList b.toList (#[at0 b 0] : Array Nat).toList (a.toList.drop 0) (b.toList.drop 1) := s
  unfold mLo
  rw [at0_get hb, Option.bind_some]
  by_cases e1 : (1 == b.size) = true
  · rw [if_pos e1]
    exact ⟨_, rfl, doneB_ok O hl s (beq_iff_eq.mp e1)⟩
  have e1' : 1 ≠ b.size := fun z => e1 (beq_of z)
  rw [if_neg e1]
  by_cases e2 : (0 + 1 == a.size) = true
  · rw [if_pos e2]
    exact ⟨_, rfl, last_ok O hl s (beq_iff_eq.mp e2)⟩
  have e2' : 0 + 1 ≠ a.size := fun z => e2 (beq_of z)
  rw [if_neg e2]
  obtain ⟨t, e, r, hr, hm⟩ := iter_run (step := lo0 (cT lt) a b) (fun u => JN lt a b u.1.2.1 u.1.2.2.1 u.1.2.2.2.1) (fun u => a.size + b.size - (u.1.2.2.1 + u.1.2.2.2.1)) (fun u => ∃ r, u.1.1 = some r ∧ Mgd lt a.toList b.toList r.toList) (fun u hu => by
    obtain ⟨r, e, h1, h2, h3⟩ := lo0_ok O hl sa sb hu
    refine ⟨r, e, fun z => ?_, fun z => ?_⟩
    · cases er : r.2.1.1 with
      | some x => exact ⟨x, rfl, h1.1 x er⟩
      | none => rw [(h3 er).1] at z; cases z
    · cases er : r.2.1.1 with
      | some x => rw [h2 (by rw [er]; exact fun z => (by cases z))] at z; cases z
      | none =>
        have h4 := (h3 er).2
        have h5 := h1.2 er
        exact ⟨h5, by have := h5.2; omega⟩) (fun u hu z => by have := hu.2; omega) (a.size + b.size) ((none, #[at0 b 0], 0, 1, sg), sg) ⟨s, by dsimp only; omega, by dsimp only; omega⟩ (by dsimp only; omega)
  rw [e, Option.bind_some, hr, Option.map_some]
  exact ⟨_, rfl, hm⟩
end
end L2
namespace L2
open PySem PySem.Spec PyProof.Rows PySem.W
/-- a merge from the right under way -/
def Ng (lt : Nat → Nat → Bool) (a b A B out : List Nat) : Prop := (A ++ B ++ out).Perm (a ++ b) ∧ Srt lt (A ++ out) ∧ Srt lt (B ++ out)
section
variable {lt : Nat → Nat → Bool} {a b out A B C : List Nat}
theorem Ng.as (O : Ordr lt) {y : Nat} (h : Ng lt a b (A ++ C) (B ++ [y]) out) (hc : ∀ x ∈ C, lt y x = true) : Ng lt a b A (B ++ [y]) (C ++ out) := by
  obtain ⟨h1, h2, h3⟩ := h
  refine ⟨?_, by rw [← List.append_assoc]; exact h2, ?_⟩
  · refine List.Perm.trans ?_ h1
    rw [← List.append_assoc]
    refine List.Perm.append_right out ?_
    rw [List.append_assoc, List.append_assoc A C]
    exact List.Perm.append_left A List.perm_append_comm
  · rw [Srt.app] at h2 h3
    obtain ⟨a1, a2, a3⟩ := h2
    obtain ⟨b1, b2, b3⟩ := h3
    rw [Srt.app] at a1
    refine Srt.app.mpr ⟨b1, Srt.app.mpr ⟨a1.2.1, a2, fun x hx z hz => a3 x (List.mem_append_right _ hx) z hz⟩, fun z hz x hx => ?_⟩
    rcases List.mem_append.mp hx with hx | hx
    · have e := O.asym _ _ (hc x hx)
      rcases List.mem_append.mp hz with hz | hz
      · exact O.tr _ _ _ ((Srt.app.mp b1).2.2 z hz y (List.mem_singleton.mpr rfl)) e
      · rw [List.mem_singleton.mp hz]; exact e
    · exact b3 z hz x hx
theorem Ng.bs (O : Ordr lt) {x : Nat} (h : Ng lt a b (A ++ [x]) (B ++ C) out) (hc : ∀ y ∈ C, lt y x = false) : Ng lt a b (A ++ [x]) B (C ++ out) := by
  obtain ⟨h1, h2, h3⟩ := h
  refine ⟨?_, ?_, by rw [← List.append_assoc]; exact h3⟩
  · rw [← List.append_assoc, List.append_assoc _ B C]; exact h1
  · rw [Srt.app] at h2 h3
    obtain ⟨a1, a2, a3⟩ := h2
    obtain ⟨b1, b2, b3⟩ := h3
    rw [Srt.app] at b1
    refine Srt.app.mpr ⟨a1, Srt.app.mpr ⟨b1.2.1, b2, fun x hx z hz => b3 x (List.mem_append_right _ hx) z hz⟩, fun z hz y hy => ?_⟩
    rcases List.mem_append.mp hy with hy | hy
    · rcases List.mem_append.mp hz with hz | hz
      · exact O.tr _ _ _ ((Srt.app.mp a1).2.2 z hz x (List.mem_singleton.mpr rfl)) (hc y hy)
      · rw [List.mem_singleton.mp hz]; exact hc y hy
    · exact a3 z hz y hy
theorem Ng.doneA (h : Ng lt a b A [] out) : Mgd lt a b (A ++ [] ++ out) := ⟨h.1, by rw [List.append_nil]; exact h.2.1⟩
theorem Ng.doneB (h : Ng lt a b [] B out) : Mgd lt a b ([] ++ B ++ out) := ⟨h.1, h.2.2⟩
theorem Ng.first (O : Ordr lt) {y : Nat} (h : Ng lt a b A [y] out) (hc : ∀ x ∈ A, lt y x = true) : Mgd lt a b ([y] ++ A ++ out) := by
  have k := Ng.as O (A := []) (B := []) (C := A) (y := y) h hc
  have := k.doneB
  rwa [List.nil_append, List.nil_append, ← List.append_assoc] at this
theorem ext_take (p : Array Nat) (n : Nat) : (p.extract 0 n).toList = p.toList.take n := by
  rw [ext_list]
  simp
theorem take_at {p : Array Nat} {n : Nat} (h : n < p.size) : p.toList.take (n + 1) = p.toList.take n ++ [at0 p n] := by
  rw [List.take_add_one, List.getElem?_eq_getElem (by simpa using h)]
  simp [at0, Array.getD, h]
theorem take_cut (p : Array Nat) {k n : Nat} (h : k ≤ n) : p.toList.take n = p.toList.take k ++ (p.extract k n).toList := by
  rw [ext_list, ← List.drop_take]
  conv => lhs; rw [← List.take_append_drop k (p.toList.take n)]
  rw [List.take_take, Nat.min_eq_left h]
theorem mem_ext2 {p : Array Nat} {k n x : Nat} (h : x ∈ (p.extract k n).toList) : ∃ j, k ≤ j ∧ j < n ∧ x = at0 p j := by
  rw [ext_list] at h
  obtain ⟨j, hj, e⟩ := List.mem_iff_getElem.mp h
  have hj' := hj
  rw [List.length_take, List.length_drop, Array.length_toList] at hj'
  refine ⟨k + j, by omega, by omega, ?_⟩
  rw [← e]
  simp [at0, Array.getD, show k + j < p.size by omega]
theorem hiDone_l (a b out : Array Nat) (na nb : Nat) : (hiDone a b out na nb).toList = a.toList.take na ++ b.toList.take nb ++ out.toList.reverse := by
  unfold hiDone
  rw [Array.toList_append, Array.toList_append, ext_take, ext_take, Array.toList_reverse]
theorem hiFirst_l (a b out : Array Nat) (na nb : Nat) : (hiFirst a b out na nb).toList = b.toList.take nb ++ a.toList.take na ++ out.toList.reverse := by
  unfold hiFirst
  rw [Array.toList_append, Array.toList_append, ext_take, ext_take, Array.toList_reverse]
end
section
variable {lt : Nat → Nat → Bool} {a b : Array Nat}
abbrev NgA (lt : Nat → Nat → Bool) (a b out : Array Nat) (na nb : Nat) : Prop := Ng lt a.toList b.toList (a.toList.take na) (b.toList.take nb) out.toList.reverse
def KN (lt : Nat → Nat → Bool) (a b out : Array Nat) (na nb : Nat) : Prop := NgA lt a b out na nb ∧ 1 ≤ na ∧ na ≤ a.size ∧ 2 ≤ nb ∧ nb ≤ b.size
def KL (lt : Nat → Nat → Bool) (a b : Array Nat) (o : Option (Array Nat)) (out : Array Nat) (na nb : Nat) : Prop := (∀ r, o = some r → Mgd lt a.toList b.toList r.toList) ∧ (o = none → KN lt a b out na nb)
theorem KL.some {r out : Array Nat} {na nb : Nat} (h : Mgd lt a.toList b.toList r.toList) : KL lt a b (some r) out na nb := ⟨fun _ e => by cases e; exact h, fun e => by cases e⟩
theorem KL.none {out : Array Nat} {na nb : Nat} (h : KN lt a b out na nb) : KL lt a b none out na nb := ⟨fun _ e => (by cases e), fun _ => h⟩
variable (O : Ordr lt) (hf : ∀ x ∈ a.toList, lt (at0 b 0) x = true)
include O hf
theorem first_ok {out : Array Nat} {na nb : Nat} (h : NgA lt a b out na nb) (e : nb = 1) (hb : 0 < b.size) : Mgd lt a.toList b.toList (hiFirst a b out na nb).toList := by
  subst e
  rw [hiFirst_l]
  unfold NgA at h
  rw [take_at (p := b) (n := 0) hb, List.take_zero, List.nil_append] at h ⊢
  exact h.first O fun x hx => hf x (List.mem_of_mem_take hx)
theorem hdoneA_ok {out : Array Nat} {na nb : Nat} (h : NgA lt a b out na nb) (e : nb = 0) : Mgd lt a.toList b.toList (hiDone a b out na nb).toList := by
  subst e
  rw [hiDone_l]
  exact Ng.doneA h
theorem hdoneB_ok {out : Array Nat} {na nb : Nat} (h : NgA lt a b out na nb) (e : na = 0) : Mgd lt a.toList b.toList (hiDone a b out na nb).toList := by
  subst e
  rw [hiDone_l]
  exact Ng.doneB h
theorem hstepAs {out : Array Nat} {na nb k : Nat} (h : NgA lt a b out na nb) (h1 : 1 ≤ nb) (h2 : nb ≤ b.size) (hk : k ≤ na) (e : ∀ i, k ≤ i → i < na → lt (at0 b (nb - 1)) (at0 a i) = true) : NgA lt a b (out ++ (a.extract k na).reverse) k nb := by
  obtain ⟨m, rfl⟩ : ∃ m, nb = m + 1 := ⟨nb - 1, by omega⟩
  unfold NgA at h ⊢
  rw [Array.toList_append, Array.toList_reverse, List.reverse_append, List.reverse_reverse]
  rw [take_at (p := b) (by omega), take_cut a hk] at h
  rw [take_at (p := b) (by omega)]
  refine h.as O fun x hx => ?_
  obtain ⟨j, hj1, hj2, rfl⟩ := mem_ext2 hx
  exact e j hj1 hj2
theorem hstepBs {out : Array Nat} {na nb k : Nat} (h : NgA lt a b out na nb) (h1 : 1 ≤ na) (h2 : na ≤ a.size) (hk : k ≤ nb) (e : ∀ i, k ≤ i → i < nb → lt (at0 b i) (at0 a (na - 1)) = false) : NgA lt a b (out ++ (b.extract k nb).reverse) na k := by
  obtain ⟨m, rfl⟩ : ∃ m, na = m + 1 := ⟨na - 1, by omega⟩
  unfold NgA at h ⊢
  rw [Array.toList_append, Array.toList_reverse, List.reverse_append, List.reverse_reverse]
  rw [take_at (p := a) (by omega), take_cut b hk] at h
  rw [take_at (p := a) (by omega)]
  refine h.bs O fun x hx => ?_
  obtain ⟨j, hj1, hj2, rfl⟩ := mem_ext2 hx
  exact e j hj1 hj2
theorem hstepA {out : Array Nat} {na nb : Nat} (h : NgA lt a b out na nb) (h0 : 1 ≤ na) (h3 : na ≤ a.size) (h1 : 1 ≤ nb) (h2 : nb ≤ b.size) (e : lt (at0 b (nb - 1)) (at0 a (na - 1)) = true) : NgA lt a b (out.push (at0 a (na - 1))) (na - 1) nb := by
  have k := hstepAs O hf (k := na - 1) h h1 h2 (by omega) (fun i h1 h2 => by rw [show i = na - 1 by omega]; exact e)
  have e1 : (a.extract (na - 1) na).toList = [at0 a (na - 1)] := by
    rw [ext_list, drop_at (by omega), show na - (na - 1) = 1 by omega]
    rfl
  unfold NgA at k ⊢
  rw [Array.toList_append, Array.toList_reverse, e1] at k
  rw [Array.toList_push]
  exact k
theorem hstepB {out : Array Nat} {na nb : Nat} (h : NgA lt a b out na nb) (h0 : 1 ≤ na) (h3 : na ≤ a.size) (h1 : 1 ≤ nb) (h2 : nb ≤ b.size) (e : lt (at0 b (nb - 1)) (at0 a (na - 1)) = false) : NgA lt a b (out.push (at0 b (nb - 1))) na (nb - 1) := by
  have k := hstepBs O hf (k := nb - 1) h h0 h3 (by omega) (fun i h1 h2 => by rw [show i = nb - 1 by omega]; exact e)
  have e1 : (b.extract (nb - 1) nb).toList = [at0 b (nb - 1)] := by
    rw [ext_list, drop_at (by omega), show nb - (nb - 1) = 1 by omega]
    rfl
  unfold NgA at k ⊢
  rw [Array.toList_append, Array.toList_reverse, e1] at k
  rw [Array.toList_push]
  exact k
theorem hi1_ok {mg : Nat} {g : H1} (h : KN lt a b g.2.2.2.1 g.2.1 g.2.2.1) : ∃ r, hi1 (cT lt) a b mg g = some r ∧ KL lt a b r.2.1 r.2.2.2.2.1 r.2.2.1 r.2.2.2.1 ∧ (r.1 = false → r.2.1 = none) ∧ (r.2.1 = none → r.2.2.1 + r.2.2.2.1 < g.2.1 + g.2.2.1) := by
  obtain ⟨o, na, nb, out, x, y⟩ := g
  obtain ⟨h1, h2, h3, h4, h5⟩ := h
  dsimp only at *
  unfold hi1
  dsimp only
  rw [at0_get (by omega), Option.bind_some, at0_get (by omega), Option.bind_some]
  unfold cT
  rw [Option.bind_some]
  cases e : lt (at0 b (nb - 1)) (at0 a (na - 1)) with
  | true =>
    have s := hstepA O hf h1 h2 h3 (by omega) h5 e
    rw [if_pos rfl]
    by_cases e1 : (na - 1 == 0) = true
    · rw [if_pos e1]
      exact ⟨_, rfl, KL.some (hdoneB_ok O hf s (beq_iff_eq.mp e1)), fun z => (by cases z), fun z => (by cases z)⟩
    · have e1' : na - 1 ≠ 0 := fun z => e1 (beq_of z)
      rw [if_neg e1]
      split
      · exact ⟨_, rfl, KL.none ⟨s, by dsimp only; omega, by dsimp only; omega, h4, h5⟩, fun _ => rfl, fun _ => by dsimp only; omega⟩
      · exact ⟨_, rfl, KL.none ⟨s, by dsimp only; omega, by dsimp only; omega, h4, h5⟩, fun _ => rfl, fun _ => by dsimp only; omega⟩
  | false =>
    have s := hstepB O hf h1 h2 h3 (by omega) h5 e
    rw [if_neg Bool.false_ne_true]
    by_cases e1 : (nb - 1 == 1) = true
    · rw [if_pos e1]
      exact ⟨_, rfl, KL.some (first_ok O hf s (beq_iff_eq.mp e1) (by omega)), fun z => (by cases z), fun z => (by cases z)⟩
    · have e1' : nb - 1 ≠ 1 := fun z => e1 (beq_of z)
      rw [if_neg e1]
      split
      · exact ⟨_, rfl, KL.none ⟨s, h2, h3, by dsimp only; omega, by dsimp only; omega⟩, fun _ => rfl, fun _ => by dsimp only; omega⟩
      · exact ⟨_, rfl, KL.none ⟨s, h2, h3, by dsimp only; omega, by dsimp only; omega⟩, fun _ => rfl, fun _ => by dsimp only; omega⟩
theorem hi3c_ok {out : Array Nat} {na nb mg k k2 n : Nat} (h : KN lt a b out na nb) (e : lt (at0 b (nb - 1)) (at0 a (na - 1)) = true) (hn : na + nb ≤ n) : ∃ r, hi3c a b out (at0 a (na - 1)) na nb mg k k2 = some r ∧ KL lt a b r.2.1.1 r.2.1.2.2.2.1 r.2.1.2.1 r.2.1.2.2.1 ∧ (r.1 = false → r.2.1.1 = none) ∧ (r.2.1.1 = none → r.2.1.2.1 + r.2.1.2.2.1 < n) := by
  obtain ⟨h1, h2, h3, h4, h5⟩ := h
  have s := hstepA O hf h1 h2 h3 (by omega) h5 e
  unfold hi3c
  by_cases e1 : (na - 1 == 0) = true
  · rw [if_pos e1]
    exact ⟨_, rfl, KL.some (hdoneB_ok O hf s (beq_iff_eq.mp e1)), fun z => (by cases z), fun z => (by cases z)⟩
  · have e1' : na - 1 ≠ 0 := fun z => e1 (beq_of z)
    rw [if_neg e1]
    split
    · exact ⟨_, rfl, KL.none ⟨s, by dsimp only; omega, by dsimp only; omega, h4, h5⟩, fun _ => rfl, fun _ => by dsimp only; omega⟩
    · exact ⟨_, rfl, KL.none ⟨s, by dsimp only; omega, by dsimp only; omega, h4, h5⟩, fun _ => rfl, fun _ => by dsimp only; omega⟩
theorem hi3b_ok (sb : Srt lt b.toList) {out : Array Nat} {na nb mg k bc n : Nat} (h : KN lt a b out na nb) (e : lt (at0 b (nb - 1)) (at0 a (na - 1)) = false) (hn : na + nb ≤ n) : ∃ r, hi3b (cT lt) a b out (at0 b (nb - 1)) na nb mg k bc = some r ∧ KL lt a b r.2.1.1 r.2.1.2.2.2.1 r.2.1.2.1 r.2.1.2.2.1 ∧ (r.1 = false → r.2.1.1 = none) ∧ (r.2.1.1 = none → r.2.1.2.1 + r.2.1.2.2.1 < n) := by
  obtain ⟨h1, h2, h3, h4, h5⟩ := h
  have s := hstepB O hf h1 h2 h3 (by omega) h5 e
  unfold hi3b
  by_cases e1 : (nb - 1 == 1) = true
  · rw [if_pos e1]
    exact ⟨_, rfl, KL.some (first_ok O hf s (beq_iff_eq.mp e1) (by omega)), fun z => (by cases z), fun z => (by cases z)⟩
  have e1' : nb - 1 ≠ 1 := fun z => e1 (beq_of z)
  rw [if_neg e1, at0_get (by omega), Option.bind_some]
  obtain ⟨k2, f0, f1, f2, f3⟩ := gal_ok (lt := lt) (left := true) (key := at0 a (na - 1)) (arr := b) (base := 0) (n := nb - 1) (hint := nb - 1 - 1) (by omega) (by omega) (fun i j hij hj q => by
    unfold bey at q ⊢
    rw [if_pos rfl] at q ⊢
    cases w : lt (at0 b (0 + i)) (at0 a (na - 1)) with
    | true => rfl
    | false =>
      have := O.tr _ _ _ w (srt_at sb (show 0 + i < 0 + j by omega) (by omega))
      rw [q] at this; cases this)
  unfold bey at f2 f3
  simp only [if_true, Nat.zero_add] at f2 f3
  rw [f0, Option.bind_some]
  by_cases e2 : nb - 1 - k2 > 0
  · rw [if_pos e2]
    have s2 := hstepBs O hf s h2 h3 f1 f3
    by_cases e3 : (k2 == 1) = true
    · rw [if_pos e3]
      exact ⟨_, rfl, KL.some (first_ok O hf s2 (beq_iff_eq.mp e3) (by omega)), fun z => (by cases z), fun z => (by cases z)⟩
    have e3' : k2 ≠ 1 := fun z => e3 (beq_of z)
    rw [if_neg e3]
    by_cases e4 : (k2 == 0) = true
    · rw [if_pos e4]
      exact ⟨_, rfl, KL.some (hdoneA_ok O hf s2 (beq_iff_eq.mp e4)), fun z => (by cases z), fun z => (by cases z)⟩
    have e4' : k2 ≠ 0 := fun z => e4 (beq_of z)
    rw [if_neg e4]
    exact hi3c_ok O hf ⟨s2, h2, h3, by omega, by omega⟩ (f2 (k2 - 1) (by omega)) (by omega)
  · rw [if_neg e2]
    exact hi3c_ok O hf ⟨s, h2, h3, by omega, by omega⟩ (f2 (nb - 1 - 1) (by omega)) (by omega)
theorem hi3a_ok (sa : Srt lt a.toList) (sb : Srt lt b.toList) {out : Array Nat} {na nb mg bc : Nat} (h : KN lt a b out na nb) : ∃ r, hi3a (cT lt) a b out na nb mg bc = some r ∧ KL lt a b r.2.1.1 r.2.1.2.2.2.1 r.2.1.2.1 r.2.1.2.2.1 ∧ (r.1 = false → r.2.1.1 = none) ∧ (r.2.1.1 = none → r.2.1.2.1 + r.2.1.2.2.1 < na + nb) := by
  obtain ⟨h1, h2, h3, h4, h5⟩ := h
  unfold hi3a
  rw [at0_get (by omega), Option.bind_some]
  obtain ⟨k, f0, f1, f2, f3⟩ := gal_ok (lt := lt) (left := false) (key := at0 b (nb - 1)) (arr := a) (base := 0) (n := na) (hint := na - 1) (by omega) (by omega) (fun i j hij hj q => by
    unfold bey at q ⊢
    rw [if_neg Bool.false_ne_true] at q ⊢
    have q : lt (at0 b (nb - 1)) (at0 a (0 + j)) = false := by simpa using q
    rw [O.tr _ _ _ (srt_at sa (show 0 + i < 0 + j by omega) (by omega)) q]
    rfl)
  unfold bey at f2 f3
  simp only [Bool.false_eq_true, if_false, Bool.not_eq_true', Bool.not_eq_false', Nat.zero_add] at f2 f3
  rw [f0, Option.bind_some]
  by_cases e2 : na - k > 0
  · rw [if_pos e2]
    have s := hstepAs O hf h1 (by omega) h5 f1 f3
    by_cases e3 : (k == 0) = true
    · rw [if_pos e3]
      exact ⟨_, rfl, KL.some (hdoneB_ok O hf s (beq_iff_eq.mp e3)), fun z => (by cases z), fun z => (by cases z)⟩
    have e3' : k ≠ 0 := fun z => e3 (beq_of z)
    rw [if_neg e3]
    exact hi3b_ok O hf sb ⟨s, by omega, by omega, h4, h5⟩ (f2 (k - 1) (by omega)) (by omega)
  · rw [if_neg e2]
    exact hi3b_ok O hf sb ⟨h1, h2, h3, h4, h5⟩ (f2 (na - 1) (by omega)) (by omega)
theorem hi3_ok (sa : Srt lt a.toList) (sb : Srt lt b.toList) {g : H3} (h : KN lt a b g.1.2.2.2.1 g.1.2.1 g.1.2.2.1) : ∃ r, hi3 (cT lt) a b g = some r ∧ KL lt a b r.2.1.1 r.2.1.2.2.2.1 r.2.1.2.1 r.2.1.2.2.1 ∧ (r.1 = false → r.2.1.1 = none) ∧ (r.2.1.1 = none → r.2.1.2.1 + r.2.1.2.2.1 < g.1.2.1 + g.1.2.2.1) := by
  unfold hi3
  split <;> exact hi3a_ok O hf sa sb h
theorem hi0_ok (sa : Srt lt a.toList) (sb : Srt lt b.toList) {g : H0} (h : KN lt a b g.1.2.2.2.1 g.1.2.1 g.1.2.2.1) : ∃ r, hi0 (cT lt) a b g = some r ∧ KL lt a b r.2.1.1 r.2.1.2.2.2.1 r.2.1.2.1 r.2.1.2.2.1 ∧ (r.2.1.1 ≠ none → r.1 = true) ∧ (r.2.1.1 = none → r.1 = false ∧ r.2.1.2.1 + r.2.1.2.2.1 < g.1.2.1 + g.1.2.2.1) := by
  unfold hi0
  have h' := h
  obtain ⟨_, h2, h3, h4, h5⟩ := h'
  obtain ⟨t, e, ht, ht2⟩ := iter_run (step := hi1 (cT lt) a b g.1.2.2.2.2) (fun u => KN lt a b u.2.2.2.1 u.2.1 u.2.2.1 ∧ u.2.1 + u.2.2.1 ≤ g.1.2.1 + g.1.2.2.1) (fun u => u.2.1 + u.2.2.1) (fun u => KL lt a b u.1 u.2.2.2.1 u.2.1 u.2.2.1 ∧ (u.1 = none → u.2.1 + u.2.2.1 < g.1.2.1 + g.1.2.2.1)) (fun u ⟨hu, hu2⟩ => by
    obtain ⟨r, e, h1, h2, h3⟩ := hi1_ok O hf (mg := g.1.2.2.2.2) hu
    refine ⟨r, e, fun _ => ⟨h1, fun z => by have := h3 z; omega⟩, fun z => ?_⟩
    have z2 := h2 z
    have h4 := h3 z2
    have h5 := h1.2 z2
    exact ⟨⟨h5, by omega⟩, by omega⟩) (fun u ⟨hu, hu2⟩ z => by have := hu.2; omega) (a.size + b.size) (none, g.1.2.1, g.1.2.2.1, g.1.2.2.2.1, 0, 0) ⟨h, Nat.le_refl _⟩ (by dsimp only; omega)
  rw [e, Option.bind_some]
  cases et : t.1 with
  | some r =>
    rw [et] at ht
    exact ⟨_, rfl, KL.some (ht.1 r rfl), fun _ => rfl, fun z => (by cases z)⟩
  | none =>
    have ht := ht.2 et
    have ht2 := ht2 et
    dsimp only
    obtain ⟨u, e2, hu, hu2⟩ := iter_run (step := hi3 (cT lt) a b) (fun u => KN lt a b u.1.2.2.2.1 u.1.2.1 u.1.2.2.1 ∧ u.1.2.1 + u.1.2.2.1 ≤ t.2.1 + t.2.2.1) (fun u => u.1.2.1 + u.1.2.2.1) (fun u => KL lt a b u.1.1 u.1.2.2.2.1 u.1.2.1 u.1.2.2.1 ∧ (u.1.1 = none → u.1.2.1 + u.1.2.2.1 < t.2.1 + t.2.2.1)) (fun u ⟨hu, hu2⟩ => by
      obtain ⟨r, e, h1, h2, h3⟩ := hi3_ok O hf sa sb hu
      refine ⟨r, e, fun _ => ⟨h1, fun z => by have := h3 z; omega⟩, fun z => ?_⟩
      have z2 := h2 z
      have h4 := h3 z2
      have h5 := h1.2 z2
      exact ⟨⟨h5, by omega⟩, by omega⟩) (fun u ⟨hu, hu2⟩ z => by have := hu.2; omega) (a.size + b.size) ((none, t.2.1, t.2.2.1, t.2.2.2.1, g.1.2.2.2.2 + 1, t.2.2.2.2.1, t.2.2.2.2.2), g.2) ⟨ht, Nat.le_refl _⟩ (by dsimp only; have := ht.2; omega)
    rw [e2, Option.map_some]
    cases eu : u.1.1 with
    | some r => exact ⟨_, rfl, KL.some (hu.1 r eu), fun _ => rfl, fun z => (by cases z)⟩
    | none => exact ⟨_, rfl, KL.none (hu.2 eu), fun z => absurd rfl z, fun _ => ⟨rfl, by have := hu2 eu; dsimp only; omega⟩⟩
/-- the merge from the right -/
theorem mHi_ok (sa : Srt lt a.toList) (sb : Srt lt b.toList) (ha : 0 < a.size) (hb : 0 < b.size) (h0 : lt (at0 b (b.size - 1)) (at0 a (a.size - 1)) = true) (sg : Nat) : ∃ r, mHi (cT lt) a b sg = some r ∧ Mgd lt a.toList b.toList r.1.toList := by
  have s0 : NgA lt a b #[] a.size b.size := by
    unfold NgA
    rw [List.take_of_length_le (by simp), List.take_of_length_le (by simp)]
    exact ⟨by simp, by simpa using sa, by simpa using sb⟩
  have s := hstepA O hf s0 ha (Nat.le_refl _) hb (Nat.le_refl _) h0
  have s : NgA lt a b #[at0 a (a.size - 1)] (a.size - 1) b.size := s
  unfold mHi
  rw [at0_get (by omega), Option.bind_some]
  by_cases e1 : (a.size - 1 == 0) = true
  · rw [if_pos e1]
    exact ⟨_, rfl, hdoneB_ok O hf s (beq_iff_eq.mp e1)⟩
  have e1' : a.size - 1 ≠ 0 := fun z => e1 (beq_of z)
  rw [if_neg e1]
  by_cases e2 : (b.size == 1) = true
  · rw [if_pos e2]
    exact ⟨_, rfl, first_ok O hf s (beq_iff_eq.mp e2) hb⟩
  have e2' : b.size ≠ 1 := fun z => e2 (beq_of z)
  rw [if_neg e2]
  obtain ⟨t, e, r, hr, hm⟩ := iter_run (step := hi0 (cT lt) a b) (fun u => KN lt a b u.1.2.2.2.1 u.1.2.1 u.1.2.2.1) (fun u => u.1.2.1 + u.1.2.2.1) (fun u => ∃ r, u.1.1 = some r ∧ Mgd lt a.toList b.toList r.toList) (fun u hu => by
    obtain ⟨r, e, h1, h2, h3⟩ := hi0_ok O hf sa sb hu
    refine ⟨r, e, fun z => ?_, fun z => ?_⟩
    · cases er : r.2.1.1 with
      | some x => exact ⟨x, rfl, h1.1 x er⟩
      | none => rw [(h3 er).1] at z; cases z
    · cases er : r.2.1.1 with
      | some x => rw [h2 (by rw [er]; exact fun z => (by cases z))] at z; cases z
      | none => exact ⟨h1.2 er, (h3 er).2⟩) (fun u hu z => by have := hu.2; omega) (a.size + b.size) ((none, a.size - 1, b.size, #[at0 a (a.size - 1)], sg), sg) ⟨s, by dsimp only; omega, by dsimp only; omega, by dsimp only; omega, by dsimp only; omega⟩ (by dsimp only; omega)
  rw [e, Option.bind_some, hr, Option.map_some]
  exact ⟨_, rfl, hm⟩
end
end L2
namespace L2
open PySem PySem.Spec PyProof.Rows PySem.W
/-- the runs stand one behind the other -/
def Ct : Nat → List (Nat × Nat × Nat) → Nat → Prop
  | a, [], b => a = b
  | a, u :: us, b => u.1 = a ∧ 1 ≤ u.2.1 ∧ Ct (a + u.2.1) us b
theorem Ct.app {b : Nat} {ys : List (Nat × Nat × Nat)} : ∀ {xs : List (Nat × Nat × Nat)} {a : Nat}, Ct a (xs ++ ys) b ↔ ∃ m, Ct a xs m ∧ Ct m ys b
  | [], a => ⟨fun h => ⟨a, rfl, h⟩, fun ⟨m, e, h⟩ => by cases e; exact h⟩
  | u :: xs, a => by
    show (_ ∧ _ ∧ Ct _ (xs ++ ys) b) ↔ ∃ m, (_ ∧ _ ∧ Ct _ xs m) ∧ _
    rw [Ct.app]
    exact ⟨fun ⟨h1, h2, m, h3, h4⟩ => ⟨m, ⟨h1, h2, h3⟩, h4⟩, fun ⟨m, ⟨h1, h2, h3⟩, h4⟩ => ⟨h1, h2, m, h3, h4⟩⟩
theorem Ct.le {b : Nat} : ∀ {xs : List (Nat × Nat × Nat)} {a : Nat}, Ct a xs b → a + xs.length ≤ b
  | [], a, h => by cases h; simp
  | u :: xs, a, ⟨h1, h2, h3⟩ => by
    have := Ct.le h3
    simp
    omega
theorem Ct.mem {b : Nat} : ∀ {xs : List (Nat × Nat × Nat)} {a : Nat} {u : Nat × Nat × Nat}, Ct a xs b → u ∈ xs → a ≤ u.1 ∧ u.1 + u.2.1 ≤ b ∧ 1 ≤ u.2.1
  | v :: xs, a, u, ⟨h1, h2, h3⟩, hu => by
    have hl := Ct.le h3
    rcases List.mem_cons.mp hu with rfl | hu
    · exact ⟨by omega, by omega, h2⟩
    · have := Ct.mem h3 hu
      omega
/-- m from l on in order -/
def Upo (lt : Nat → Nat → Bool) (p : Array Nat) (l m : Nat) : Prop := ∀ i j, i < j → j < m → lt (at0 p (l + j)) (at0 p (l + i)) = false
theorem Upo.keep {lt : Nat → Nat → Bool} {p q : Array Nat} {l m : Nat} (h : Upo lt p l m) (e : ∀ i, l ≤ i → i < l + m → at0 q i = at0 p i) : Upo lt q l m := fun i j hij hj => by
  rw [e _ (by omega) (by omega), e _ (by omega) (by omega)]
  exact h i j hij hj
theorem at0_list (p : Array Nat) (i : Nat) : at0 p i = (p.toList[i]?).getD 0 := by
  by_cases h : i < p.size <;> simp [at0, Array.getD, h]
theorem at0_ext {p : Array Nat} {s e i : Nat} (h : s + i < e) : at0 (p.extract s e) i = at0 p (s + i) := by
  rw [at0_list, at0_list, ext_list, List.getElem?_take_of_lt (by omega), List.getElem?_drop]
theorem srt_of {lt : Nat → Nat → Bool} {p : Array Nat} (h : ∀ i j, i < j → j < p.size → lt (at0 p j) (at0 p i) = false) : Srt lt p.toList := by
  refine List.pairwise_iff_getElem.mpr fun i j hi hj hij => ?_
  have hj' : j < p.size := by simpa using hj
  have := h i j hij hj'
  simpa [at0, Array.getD, hj', show i < p.size by omega] using this
theorem lay_list (p : Array Nat) (o : Nat) (xs : Array Nat) (h : o + xs.size ≤ p.size) : (lay p o xs).toList = p.toList.take o ++ xs.toList ++ p.toList.drop (o + xs.size) := by
  have go : ∀ (l : List Nat) (k : Nat) (p : Array Nat), o + k + l.length ≤ p.size → ((l.zipIdx k).foldl (fun a x => a.setIfInBounds (o + x.2) x.1) p).toList = p.toList.take (o + k) ++ l ++ p.toList.drop (o + k + l.length) := by
    intro l
    induction l with
    | nil => intro k p _; simp
    | cons x l ih =>
      intro k p hk
      rw [List.length_cons] at hk
      rw [List.zipIdx_cons, List.foldl_cons, ih (k + 1) _ (by rw [Array.size_setIfInBounds]; omega), Array.toList_setIfInBounds]
      have e1 : (p.toList.set (o + k) x).take (o + (k + 1)) = p.toList.take (o + k) ++ [x] := by
        rw [show o + (k + 1) = o + k + 1 by omega, List.take_add_one, List.take_set_of_le (Nat.le_refl _), List.getElem?_set_self (by simpa using (by omega : o + k < p.size))]
        rfl
      have e2 : (p.toList.set (o + k) x).drop (o + (k + 1) + l.length) = p.toList.drop (o + k + (l.length + 1)) := by
        rw [List.drop_set_of_lt (by omega)]
        congr 1; omega
      rw [e1, e2]
      simp
  unfold lay
  have := go xs.toList 0 p (by simpa using h)
  simpa using this
theorem lay_at {p : Array Nat} {o : Nat} {xs : Array Nat} (h : o + xs.size ≤ p.size) (i : Nat) : at0 (lay p o xs) i = if o ≤ i ∧ i < o + xs.size then at0 xs (i - o) else at0 p i := by
  rw [at0_list, lay_list p o xs h]
  have hl : (p.toList.take o).length = o := by rw [List.length_take, Array.length_toList]; omega
  by_cases h1 : i < o
  · rw [if_neg (by omega), List.append_assoc, List.getElem?_append_left (by omega), List.getElem?_take_of_lt h1, ← at0_list]
  · by_cases h2 : i < o + xs.size
    · rw [if_pos ⟨by omega, h2⟩, List.append_assoc, List.getElem?_append_right (by omega), hl, List.getElem?_append_left (by simpa using (by omega : i - o < xs.size)), ← at0_list]
    · rw [if_neg (by omega), List.getElem?_append_right (by simp; omega), List.getElem?_drop, at0_list]
      congr 2
      simp
      omega
theorem lay_ord {n : Nat} {p : Array Nat} {s m e : Nat} {r : Array Nat} (ho : Ord n p) (h1 : s ≤ m) (h2 : m ≤ e) (h3 : e ≤ p.size) (hr : r.toList.Perm ((p.extract s m).toList ++ (p.extract m e).toList)) : r.size = e - s ∧ Ord n (lay p s r) := by
  have hz : r.size = e - s := by
    have := hr.length_eq
    simp at this
    omega
  refine ⟨hz, Array.Perm.trans ?_ ho⟩
  rw [Array.perm_iff_toList_perm, lay_list p s r (by omega)]
  have e1 : p.toList = p.toList.take s ++ ((p.extract s m).toList ++ (p.extract m e).toList) ++ p.toList.drop e := by
    rw [← List.append_assoc, ← take_cut p h1, ← take_cut p h2, List.take_append_drop]
  conv => rhs; rw [e1]
  rw [show s + r.size = e by omega]
  exact (hr.append_left _).append_right _
theorem pd_list {pd : Array (Nat × Nat × Nat)} {i : Nat} {u v : Nat × Nat × Nat} (hu : pd[i]? = some u) (hv : pd[i + 1]? = some v) : pd.toList = pd.toList.take i ++ u :: v :: pd.toList.drop (i + 2) := by
  obtain ⟨h1, e1⟩ := Array.getElem?_eq_some_iff.mp hu
  obtain ⟨h2, e2⟩ := Array.getElem?_eq_some_iff.mp hv
  conv => lhs; rw [← List.take_append_drop i pd.toList]
  rw [List.drop_eq_getElem_cons (by simpa using h1), List.drop_eq_getElem_cons (by simpa using h2)]
  simp only [Array.getElem_toList, e1, e2]
theorem pd_aux {u v w : Nat × Nat × Nat} {B : List (Nat × Nat × Nat)} : ∀ A : List (Nat × Nat × Nat), ((A ++ u :: v :: B).set A.length w).eraseIdx (A.length + 1) = A ++ w :: B
  | [] => rfl
  | a :: A => congrArg (a :: ·) (pd_aux A)
theorem pd_new {pd : Array (Nat × Nat × Nat)} {i : Nat} {u v : Nat × Nat × Nat} (w : Nat × Nat × Nat) (hu : pd[i]? = some u) (hv : pd[i + 1]? = some v) : ((pd.setIfInBounds i w).eraseIdxIfInBounds (i + 1)).toList = pd.toList.take i ++ w :: pd.toList.drop (i + 2) := by
  obtain ⟨h1, e1⟩ := Array.getElem?_eq_some_iff.mp hu
  have hl : (pd.toList.take i).length = i := by rw [List.length_take, Array.length_toList]; omega
  rw [Array.toList_eraseIdxIfInBounds, Array.toList_setIfInBounds]
  have e := pd_list hu hv
  have k := pd_aux (u := u) (v := v) (w := w) (B := pd.toList.drop (i + 2)) (pd.toList.take i)
  rw [hl, ← e] at k
  exact k
/-- the state of the sort: the runs laid up to hi -/
def OkT (lt : Nat → Nat → Bool) (n hi : Nat) (t : Ts) : Prop := Ord n t.1 ∧ Ct 0 t.2.1.toList hi ∧ hi ≤ n ∧ ∀ u ∈ t.2.1.toList, Upo lt t.1 u.1 u.2.1
theorem OkT.join {lt : Nat → Nat → Bool} {n hi i g : Nat} {t : Ts} {u v : Nat × Nat × Nat} (h : OkT lt n hi t) (hu : t.2.1[i]? = some u) (hv : t.2.1[i + 1]? = some v) {p : Array Nat} (ho : Ord n p) (he : ∀ j, (j < u.1 ∨ u.1 + (u.2.1 + v.2.1) ≤ j) → at0 p j = at0 t.1 j) (hs : Upo lt p u.1 (u.2.1 + v.2.1)) : OkT lt n hi (p, (t.2.1.setIfInBounds i (u.1, u.2.1 + v.2.1, u.2.2)).eraseIdxIfInBounds (i + 1), g) := by
  obtain ⟨h1, h2, h3, h4⟩ := h
  have e1 := pd_list hu hv
  have e2 := pd_new (u.1, u.2.1 + v.2.1, u.2.2) hu hv
  rw [e1] at h2 h4
  obtain ⟨m, c1, c2, c3, c4, c5, c6⟩ := Ct.app.mp h2
  refine ⟨ho, ?_, h3, ?_⟩
  · dsimp only
    rw [e2]
    exact Ct.app.mpr ⟨m, c1, c2, by dsimp only; omega, by dsimp only; rw [← Nat.add_assoc]; exact c6⟩
  · dsimp only
    rw [e2]
    intro w hw
    rcases List.mem_append.mp hw with hw | hw
    · have := c1.mem hw
      exact (h4 w (List.mem_append_left _ hw)).keep fun j _ _ => he j (.inl (by omega))
    · rcases List.mem_cons.mp hw with rfl | hw
      · exact hs
      · have := c6.mem hw
        exact (h4 w (List.mem_append_right _ (List.mem_cons_of_mem _ (List.mem_cons_of_mem _ hw)))).keep fun j _ _ => he j (.inr (by omega))
theorem OkT.two {lt : Nat → Nat → Bool} {n hi i : Nat} {t : Ts} {u v : Nat × Nat × Nat} (h : OkT lt n hi t) (hu : t.2.1[i]? = some u) (hv : t.2.1[i + 1]? = some v) : v.1 = u.1 + u.2.1 ∧ 1 ≤ u.2.1 ∧ 1 ≤ v.2.1 ∧ v.1 + v.2.1 ≤ hi ∧ hi ≤ n ∧ t.1.size = n ∧ Upo lt t.1 u.1 u.2.1 ∧ Upo lt t.1 v.1 v.2.1 := by
  obtain ⟨h1, h2, h3, h4⟩ := h
  have e1 := pd_list hu hv
  rw [e1] at h2 h4
  obtain ⟨m, c1, c2, c3, c4, c5, c6⟩ := Ct.app.mp h2
  have := c6.le
  exact ⟨by omega, c3, c5, by omega, h3, h1.size, h4 u (by simp), h4 v (by simp)⟩
theorem mAt_ok {lt : Nat → Nat → Bool} (O : Ordr lt) {n hi i : Nat} {t : Ts} (h : OkT lt n hi t) (hi2 : i + 1 < t.2.1.size) : ∃ t', mAt (cT lt) i t = some t' ∧ OkT lt n hi t' ∧ t'.2.1.size + 1 = t.2.1.size ∧ ∀ j, hi ≤ j → at0 t'.1 j = at0 t.1 j := by
  obtain ⟨u, hu⟩ : ∃ u, t.2.1[i]? = some u := ⟨_, Array.getElem?_eq_getElem (by omega)⟩
  obtain ⟨v, hv⟩ : ∃ v, t.2.1[i + 1]? = some v := ⟨_, Array.getElem?_eq_getElem hi2⟩
  obtain ⟨a1, a2, a3, a4, a4', a5, sx, sy⟩ := h.two hu hv
  have hz : ∀ w : Nat × Nat × Nat, ((t.2.1.setIfInBounds i w).eraseIdxIfInBounds (i + 1)).size + 1 = t.2.1.size := fun w => by
    rw [← Array.length_toList, pd_new w hu hv, ← Array.length_toList, pd_list hu hv]
    simp
    omega
  unfold mAt
  rw [hu, Option.bind_some, hv, Option.bind_some, at0_get (by omega), Option.bind_some]
  obtain ⟨k, f0, f1, f2, f3⟩ := gal_ok (lt := lt) (left := false) (key := at0 t.1 v.1) (arr := t.1) (base := u.1) (n := u.2.1) (hint := 0) (by omega) (by omega) (fun i j hij hj q => by
    unfold bey at q ⊢
    rw [if_neg Bool.false_ne_true] at q ⊢
    have q : lt (at0 t.1 v.1) (at0 t.1 (u.1 + j)) = false := by simpa using q
    rw [O.tr _ _ _ (sx i j hij hj) q]
    rfl)
  unfold bey at f2 f3
  simp only [Bool.false_eq_true, if_false, Bool.not_eq_true', Bool.not_eq_false'] at f2 f3
  rw [f0, Option.bind_some]
  have y_le : ∀ j, j < v.2.1 → lt (at0 t.1 (v.1 + j)) (at0 t.1 v.1) = false := fun j hj => by
    by_cases e : j = 0
    · rw [e]
      cases q : lt (at0 t.1 (v.1 + 0)) (at0 t.1 v.1) with
      | false => rfl
      | true => have := O.asym _ _ q; rw [Nat.add_zero] at q this; rw [q] at this; cases this
    · exact sy 0 j (by omega) hj
  have join : (∀ j, j < u.2.1 → lt (at0 t.1 v.1) (at0 t.1 (u.1 + j)) = false) → Upo lt t.1 u.1 (u.2.1 + v.2.1) := fun hj i j hij hjm => by
    by_cases c1 : j < u.2.1
    · exact sx i j hij c1
    · have ej : u.1 + j = v.1 + (j - u.2.1) := by omega
      by_cases c2 : i < u.2.1
      · rw [ej]
        exact O.tr _ _ _ (hj i c2) (y_le _ (by omega))
      · rw [ej, show u.1 + i = v.1 + (i - u.2.1) by omega]
        exact sy _ _ (by omega) (by omega)
  by_cases e1 : (u.2.1 - k == 0) = true
  · rw [if_pos e1]
    have e1' : u.2.1 - k = 0 := beq_iff_eq.mp e1
    exact ⟨_, rfl, h.join hu hv h.1 (fun _ _ => rfl) (join fun j hj => f2 j (by omega)), hz _, fun _ _ => rfl⟩
  have e1' : u.2.1 - k ≠ 0 := fun z => e1 (beq_of z)
  rw [if_neg e1, show u.1 + k + (u.2.1 - k) - 1 = u.1 + (u.2.1 - 1) by omega, at0_get (by omega), Option.bind_some]
  obtain ⟨nb, g0, g1, g2, g3⟩ := gal_ok (lt := lt) (left := true) (key := at0 t.1 (u.1 + (u.2.1 - 1))) (arr := t.1) (base := v.1) (n := v.2.1) (hint := v.2.1 - 1) (by omega) (by omega) (fun i j hij hj q => by
    unfold bey at q ⊢
    rw [if_pos rfl] at q ⊢
    cases w : lt (at0 t.1 (v.1 + i)) (at0 t.1 (u.1 + (u.2.1 - 1))) with
    | true => rfl
    | false =>
      have := O.tr _ _ _ w (sy i j hij hj)
      rw [q] at this; cases this)
  unfold bey at g2 g3
  simp only [if_true] at g2 g3
  rw [g0, Option.bind_some]
  have x_ge : ∀ j, j < u.2.1 → lt (at0 t.1 (u.1 + (u.2.1 - 1))) (at0 t.1 (u.1 + j)) = false := fun j hj => by
    by_cases e : j = u.2.1 - 1
    · rw [e]
      cases q : lt (at0 t.1 (u.1 + (u.2.1 - 1))) (at0 t.1 (u.1 + (u.2.1 - 1))) with
      | false => rfl
      | true => have := O.asym _ _ q; rw [q] at this; cases this
    · exact sx _ _ (by omega) (by omega)
  by_cases e2 : (nb == 0) = true
  · rw [if_pos e2]
    have e2' : nb = 0 := beq_iff_eq.mp e2
    refine ⟨_, rfl, h.join hu hv h.1 (fun _ _ => rfl) (join fun j hj => ?_), hz _, fun _ _ => rfl⟩
    exact O.tr _ _ _ (x_ge j hj) (by simpa using g3 0 (by omega) (by omega))
  have e2' : nb ≠ 0 := fun z => e2 (beq_of z)
  rw [if_neg e2]
  -- the part of both between
  have sa : Srt lt (t.1.extract (u.1 + k) v.1).toList := srt_of fun i j hij hj => by
    have : (t.1.extract (u.1 + k) v.1).size = v.1 - (u.1 + k) := by simp; omega
    rw [at0_ext (by omega), at0_ext (by omega), Nat.add_assoc, Nat.add_assoc]
    exact sx _ _ (by omega) (by omega)
  have sb : Srt lt (t.1.extract v.1 (v.1 + nb)).toList := srt_of fun i j hij hj => by
    have : (t.1.extract v.1 (v.1 + nb)).size = nb := by simp; omega
    rw [at0_ext (by omega), at0_ext (by omega)]
    exact sy _ _ (by omega) (by omega)
  have za : (t.1.extract (u.1 + k) v.1).size = u.2.1 - k := by simp; omega
  have zb : (t.1.extract v.1 (v.1 + nb)).size = nb := by simp; omega
  have fin : ∀ r : Array Nat, Mgd lt (t.1.extract (u.1 + k) v.1).toList (t.1.extract v.1 (v.1 + nb)).toList r.toList → (∀ g, OkT lt n hi (lay t.1 (u.1 + k) r, (t.2.1.setIfInBounds i (u.1, u.2.1 + v.2.1, u.2.2)).eraseIdxIfInBounds (i + 1), g)) ∧ ∀ j, hi ≤ j → at0 (lay t.1 (u.1 + k) r) j = at0 t.1 j := by
    intro r ⟨hp, hs⟩
    obtain ⟨rz, ro⟩ := lay_ord h.1 (show u.1 + k ≤ v.1 by omega) (Nat.le_add_right v.1 nb) (by omega) hp
    have la := fun j => lay_at (p := t.1) (o := u.1 + k) (xs := r) (by omega) j
    have mem : ∀ j, j < r.size → (∃ x, k ≤ x ∧ x < u.2.1 ∧ at0 r j = at0 t.1 (u.1 + x)) ∨ ∃ x, x < nb ∧ at0 r j = at0 t.1 (v.1 + x) := fun j hj => by
      have : at0 r j ∈ r.toList := by
        have e : at0 r j = r[j] := by simp [at0, Array.getD, hj]
        rw [e]
        simp
      rcases List.mem_append.mp (hp.mem_iff.mp this) with hm | hm
      · obtain ⟨x, x1, x2, x3⟩ := mem_ext2 hm
        exact .inl ⟨x - u.1, by omega, by omega, by rw [x3]; congr 1; omega⟩
      · obtain ⟨x, x1, x2, x3⟩ := mem_ext2 hm
        exact .inr ⟨x - v.1, by omega, by rw [x3]; congr 1; omega⟩
    refine ⟨fun g => h.join hu hv ro (fun j hj => by rw [la, if_neg (by omega)]) fun i j hij hj => ?_, fun j hj => by rw [la, if_neg (by omega)]⟩
    rw [la, la]
    by_cases c1 : j < k
    · rw [if_neg (by omega), if_neg (by omega)]
      exact sx i j hij (by omega)
    by_cases c2 : j < u.2.1 + nb
    · rw [if_pos (by omega)]
      by_cases c3 : i < k
      · rw [if_neg (by omega)]
        rcases mem (u.1 + j - (u.1 + k)) (by omega) with ⟨x, x1, x2, x3⟩ | ⟨x, x1, x3⟩
        · rw [x3]; exact sx _ _ (by omega) x2
        · rw [x3]; exact O.tr _ _ _ (f2 i c3) (y_le x (by omega))
      · rw [if_pos (by omega)]
        exact srt_at hs (by omega) (by omega)
    · rw [if_neg (by omega), show u.1 + j = v.1 + (j - u.2.1) by omega]
      by_cases c3 : i < k
      · rw [if_neg (by omega)]
        exact O.tr _ _ _ (f2 i c3) (y_le _ (by omega))
      by_cases c4 : i < u.2.1 + nb
      · rw [if_pos (by omega)]
        rcases mem (u.1 + i - (u.1 + k)) (by omega) with ⟨x, x1, x2, x3⟩ | ⟨x, x1, x3⟩
        · rw [x3]; exact O.tr _ _ _ (x_ge x x2) (g3 _ (by omega) (by omega))
        · rw [x3]; exact sy _ _ (by omega) (by omega)
      · rw [if_neg (by omega), show u.1 + i = v.1 + (i - u.2.1) by omega]
        exact sy _ _ (by omega) (by omega)
  by_cases e3 : u.2.1 - k ≤ nb
  · rw [if_pos e3]
    obtain ⟨r, hr, hm⟩ := mLo_ok O (a := t.1.extract (u.1 + k) v.1) (b := t.1.extract v.1 (v.1 + nb)) (fun y hy => by
      obtain ⟨j, hj, _, rfl⟩ := mem_ext hy
      rw [za, at0_ext (by omega), show u.1 + k + (u.2.1 - k - 1) = u.1 + (u.2.1 - 1) by omega]
      exact g2 j hj) sa sb (by omega) (by omega) (by
      rw [at0_ext (by omega), at0_ext (by omega), Nat.add_zero, Nat.add_zero]
      exact f3 k (Nat.le_refl _) (by omega)) t.2.2
    rw [hr, Option.bind_some]
    exact ⟨_, rfl, (fin r.1 hm).1 _, hz _, (fin r.1 hm).2⟩
  · rw [if_neg e3]
    obtain ⟨r, hr, hm⟩ := mHi_ok O (a := t.1.extract (u.1 + k) v.1) (b := t.1.extract v.1 (v.1 + nb)) (fun x hx => by
      obtain ⟨j, j1, j2, rfl⟩ := mem_ext2 hx
      rw [at0_ext (by omega), Nat.add_zero, show j = u.1 + (j - u.1) by omega]
      exact f3 _ (by omega) (by omega)) sa sb (by omega) (by omega) (by
      rw [za, zb, at0_ext (by omega), at0_ext (by omega), show u.1 + k + (u.2.1 - k - 1) = u.1 + (u.2.1 - 1) by omega]
      exact g2 _ (by omega)) t.2.2
    rw [hr, Option.bind_some]
    exact ⟨_, rfl, (fin r.1 hm).1 _, hz _, (fin r.1 hm).2⟩
end L2
namespace L2
open PySem PySem.Spec PyProof.Rows PySem.W
/-- changed between l and r alone, and only the order -/
def Fr (p q : Array Nat) (l r : Nat) : Prop := q.size = p.size ∧ (∀ n, Ord n p → Ord n q) ∧ ∀ i, (i < l ∨ r ≤ i) → at0 q i = at0 p i
theorem Fr.refl (p : Array Nat) (l r : Nat) : Fr p p l r := ⟨rfl, fun _ h => h, fun _ _ => rfl⟩
theorem Fr.trans {p q s : Array Nat} {l r : Nat} (h : Fr p q l r) (k : Fr q s l r) : Fr p s l r := ⟨k.1.trans h.1, fun n z => k.2.1 n (h.2.1 n z), fun i hi => (k.2.2 i hi).trans (h.2.2 i hi)⟩
theorem Fr.mono {p q : Array Nat} {l r r' : Nat} (h : Fr p q l r) (e : r ≤ r') : Fr p q l r' := ⟨h.1, h.2.1, fun i hi => h.2.2 i (by omega)⟩
theorem rvo_at {p : Array Nat} {i j : Nat} (hj : j ≤ p.size) (k : Nat) : at0 (rev p i j) k = if i ≤ k ∧ k < j then at0 p (i + j - 1 - k) else at0 p k := rev_at hj k
theorem Fr.rev {p : Array Nat} {l r i j : Nat} (h1 : l ≤ i) (h2 : j ≤ r) (hj : j ≤ p.size) : Fr p (rev p i j) l r := ⟨mirror_size _ _ _ _, fun _ h => (mirror_perm p i j _).trans h, fun k hk => by rw [rvo_at hj, if_neg (by omega)]⟩
theorem Fr.bub {p : Array Nat} {l r k d : Nat} (hk : k < p.size) (hd : d ≤ k) (h1 : l ≤ k - d) (h2 : k < r) : Fr p (bubble p k d) l r := ⟨bubble_size _ _ _, fun _ h => (bubble_perm p k d).trans h, fun i hi => by rw [bub_at hk hd, if_neg (by omega), if_neg (by omega)]⟩
theorem cAt_at {lt : Nat → Nat → Bool} {p : Array Nat} {i j : Nat} (hi : i < p.size) (hj : j < p.size) : cAt (cT lt) p i j = some (lt (at0 p i) (at0 p j)) := by
  unfold cAt cT
  rw [at0_get hi, Option.bind_some, at0_get hj, Option.bind_some]
def Dno (lt : Nat → Nat → Bool) (p : Array Nat) (l m : Nat) : Prop := ∀ i j, i < j → j < m → lt (at0 p (l + i)) (at0 p (l + j)) = false
def Blo (lt : Nat → Nat → Bool) (p : Array Nat) (l m q : Nat) : Prop := q + 1 ≤ m ∧ ∀ i j, m - (q + 1) ≤ i → i < m → m - (q + 1) ≤ j → j < m → lt (at0 p (l + i)) (at0 p (l + j)) = false
section
variable {lt : Nat → Nat → Bool} (O : Ordr lt)
include O
theorem irr (x : Nat) : lt x x = false := by
  cases h : lt x x with
  | false => rfl
  | true => have := O.asym _ _ h; rw [h] at this; cases this
theorem upo_more {p : Array Nat} {l m : Nat} (h : Upo lt p l m) (hm : 0 < m) (e : lt (at0 p (l + m)) (at0 p (l + m - 1)) = false) : Upo lt p l (m + 1) := by
  intro i j hij hj
  by_cases hjm : j < m
  · exact h i j hij hjm
  · obtain rfl : j = m := by omega
    by_cases hi : i = j - 1
    · subst hi; rw [show l + (j - 1) = l + j - 1 by omega]; exact e
    · refine O.tr _ _ _ (h i (j - 1) (by omega) (by omega)) ?_
      rw [show l + (j - 1) = l + j - 1 by omega]; exact e
theorem dno_more {p : Array Nat} {l m : Nat} (h : Dno lt p l m) (hm : 0 < m) (e : lt (at0 p (l + m - 1)) (at0 p (l + m)) = false) : Dno lt p l (m + 1) := by
  intro i j hij hj
  by_cases hjm : j < m
  · exact h i j hij hjm
  · obtain rfl : j = m := by omega
    by_cases hi : i = j - 1
    · subst hi; rw [show l + (j - 1) = l + j - 1 by omega]; exact e
    · refine O.tr _ _ _ ?_ (h i (j - 1) (by omega) (by omega))
      rw [show l + (j - 1) = l + j - 1 by omega]; exact e
theorem asc_ok {p : Array Nat} {l : Nat} : ∀ (f m : Nat), l + m + f ≤ p.size → 0 < m → Upo lt p l m → ∃ k, iter (cAsc (cT lt) p l) f m = some k ∧ m ≤ k ∧ k ≤ m + f ∧ Upo lt p l k ∧ (k < m + f → lt (at0 p (l + k)) (at0 p (l + k - 1)) = true)
  | 0, m, _, _, h => ⟨m, rfl, Nat.le_refl _, Nat.le_refl _, h, fun z => absurd z (Nat.lt_irrefl _)⟩
  | f + 1, m, hz, hm, h => by
    unfold iter cAsc
    rw [cAt_at (by omega) (by omega), Option.map_some, Option.bind_some]
    cases e : lt (at0 p (l + m)) (at0 p (l + m - 1)) with
    | true =>
      rw [if_pos rfl, if_pos rfl]
      exact ⟨m, rfl, Nat.le_refl _, by omega, h, fun _ => e⟩
    | false =>
      rw [if_neg Bool.false_ne_true, if_neg Bool.false_ne_true]
      obtain ⟨k, e2, h1, h2, h3, h4⟩ := asc_ok f (m + 1) (by omega) (by omega) (upo_more O h hm e)
      exact ⟨k, e2, by omega, by omega, h3, fun z => h4 (by omega)⟩
omit O in
theorem dno_rev {p : Array Nat} {l m : Nat} (h : Dno lt p l m) (hm : l + m ≤ p.size) : Upo lt (rev p l (l + m)) l m := by
  intro i j hij hj
  rw [rvo_at hm, rvo_at hm, if_pos ⟨by omega, by omega⟩, if_pos ⟨by omega, by omega⟩, show l + (l + m) - 1 - (l + j) = l + (m - 1 - j) by omega, show l + (l + m) - 1 - (l + i) = l + (m - 1 - i) by omega]
  exact h _ _ (by omega) (by omega)
omit O in
theorem upo_rev {p : Array Nat} {l m : Nat} (h : Upo lt p l m) (hm : l + m ≤ p.size) : Dno lt (rev p l (l + m)) l m := by
  intro i j hij hj
  rw [rvo_at hm, rvo_at hm, if_pos ⟨by omega, by omega⟩, if_pos ⟨by omega, by omega⟩, show l + (l + m) - 1 - (l + j) = l + (m - 1 - j) by omega, show l + (l + m) - 1 - (l + i) = l + (m - 1 - i) by omega]
  exact h _ _ (by omega) (by omega)
omit O in
/-- the block of like ones at the end may be turned -/
theorem dno_blk {p : Array Nat} {l m q : Nat} (h : Dno lt p l m) (hm : l + m ≤ p.size) (hb : Blo lt p l m q) : Dno lt (rev p (l + m - (q + 1)) (l + m)) l m := by
  obtain ⟨hq, hb⟩ := hb
  intro i j hij hj
  rw [rvo_at hm, rvo_at hm]
  by_cases h1 : m - (q + 1) ≤ i
  · rw [if_pos ⟨by omega, by omega⟩, if_pos ⟨by omega, by omega⟩, show l + m - (q + 1) + (l + m) - 1 - (l + i) = l + (m - (q + 1) + m - 1 - i) by omega, show l + m - (q + 1) + (l + m) - 1 - (l + j) = l + (m - (q + 1) + m - 1 - j) by omega]
    exact hb _ _ (by omega) (by omega) (by omega) (by omega)
  · rw [if_neg (c := l + m - (q + 1) ≤ l + i ∧ l + i < l + m) (by omega)]
    by_cases h2 : m - (q + 1) ≤ j
    · rw [if_pos ⟨by omega, by omega⟩, show l + m - (q + 1) + (l + m) - 1 - (l + j) = l + (m - (q + 1) + m - 1 - j) by omega]
      exact h _ _ (by omega) (by omega)
    · rw [if_neg (by omega)]
      exact h _ _ hij hj
theorem desc_ok {l : Nat} : ∀ (f : Nat) (p : Array Nat) (m q : Nat), l + m + f ≤ p.size → 0 < m → Dno lt p l m → Blo lt p l m q → ∃ r, iter (cDesc (cT lt) l) f (p, m, q) = some r ∧ Fr p r.1 l (l + m + f) ∧ m ≤ r.2.1 ∧ r.2.1 ≤ m + f ∧ Dno lt r.1 l r.2.1 ∧ Blo lt r.1 l r.2.1 r.2.2
  | 0, p, m, q, _, _, hd, hb => ⟨_, rfl, Fr.refl _ _ _, Nat.le_refl _, Nat.le_refl _, hd, hb⟩
  | f + 1, p, m, q, hs, hm, hd, hb => by
    have one : ∀ p : Array Nat, Blo lt p l (m + 1) 0 := fun p => ⟨by omega, fun i j h1 h2 h3 h4 => by
      obtain rfl : i = m := by omega
      obtain rfl : j = i := by omega
      exact irr O _⟩
    unfold iter cDesc
    dsimp only
    rw [cAt_at (by omega) (by omega), Option.bind_some]
    cases e1 : lt (at0 p (l + m)) (at0 p (l + m - 1)) with
    | true =>
      have e2 := O.asym _ _ e1
      rw [if_pos rfl]
      by_cases hq : q > 0
      · rw [if_pos hq, Option.bind_some, if_neg Bool.false_ne_true]
        have hd2 := dno_blk hd (by omega) hb
        have at_m : at0 (rev p (l + m - (q + 1)) (l + m)) (l + m) = at0 p (l + m) := by rw [rvo_at (by omega), if_neg (by omega)]
        have b1 := hb.1
        have at_m1 : at0 (rev p (l + m - (q + 1)) (l + m)) (l + m - 1) = at0 p (l + (m - (q + 1))) := by
          rw [rvo_at (by omega), if_pos ⟨by omega, by omega⟩]
          congr 1; omega
        have e3 : lt (at0 (rev p (l + m - (q + 1)) (l + m)) (l + m - 1)) (at0 (rev p (l + m - (q + 1)) (l + m)) (l + m)) = false := by
          rw [at_m, at_m1]
          refine O.tr _ _ _ e2 ?_
          rw [show l + m - 1 = l + (m - 1) by omega]
          exact hb.2 _ (m - 1) (by omega) (by omega) (by omega) (by omega)
        have hd3 := dno_more O hd2 hm e3
        have fr : Fr p (rev p (l + m - (q + 1)) (l + m)) l (l + m + (f + 1)) := Fr.rev (by omega) (by omega) (by omega)
        obtain ⟨r, r0, r1, r2, r3, r4, r5⟩ := desc_ok f _ (m + 1) 0 (by rw [fr.1]; omega) (by omega) hd3 (one _)
        exact ⟨r, r0, fr.trans (r1.mono (by omega)), by omega, by omega, r4, r5⟩
      · rw [if_neg hq, Option.bind_some, if_neg Bool.false_ne_true]
        have hd3 := dno_more O hd hm e2
        obtain ⟨r, r0, r1, r2, r3, r4, r5⟩ := desc_ok f _ (m + 1) 0 (by omega) (by omega) hd3 (one _)
        exact ⟨r, r0, r1.mono (by omega), by omega, by omega, r4, r5⟩
    | false =>
      rw [if_neg Bool.false_ne_true, cAt_at (by omega) (by omega), Option.bind_some]
      cases e2 : lt (at0 p (l + m - 1)) (at0 p (l + m)) with
      | true =>
        rw [if_pos rfl, Option.bind_some, if_pos rfl]
        exact ⟨_, rfl, Fr.refl _ _ _, Nat.le_refl _, by show m ≤ _; omega, hd, hb⟩
      | false =>
        rw [if_neg Bool.false_ne_true, Option.bind_some, if_neg Bool.false_ne_true]
        have hd3 := dno_more O hd hm e2
        have b1 := hb.1
        have em : l + m - 1 = l + (m - 1) := by omega
        rw [em] at e1 e2
        have hb3 : Blo lt p l (m + 1) (q + 1) := ⟨by omega, fun i j h1 h2 h3 h4 => by
          by_cases hi : i = m
          · by_cases hj : j = m
            · rw [hi, hj]; exact irr O _
            · rw [hi]
              exact O.tr _ _ _ (hb.2 (m - 1) j (by omega) (by omega) (by omega) (by omega)) e1
          · by_cases hj : j = m
            · rw [hj]
              exact O.tr _ _ _ e2 (hb.2 i (m - 1) (by omega) (by omega) (by omega) (by omega))
            · exact hb.2 _ _ (by omega) (by omega) (by omega) (by omega)⟩
        obtain ⟨r, r0, r1, r2, r3, r4, r5⟩ := desc_ok f _ (m + 1) (q + 1) (by omega) (by omega) hd3 hb3
        exact ⟨r, r0, r1.mono (by omega), by omega, by omega, r4, r5⟩
theorem tail_ok {p : Array Nat} {l m n : Nat} (hn : l + n ≤ p.size) (hm : m ≤ n) (h0 : 0 < m) (hd : Dno lt p l m) : ∃ r, cTail (cT lt) l n p m = some r ∧ 1 ≤ r.1 ∧ r.1 ≤ n ∧ Fr p r.2 l (l + n) ∧ Upo lt r.2 l r.1 := by
  have fr : Fr p (rev p l (l + m)) l (l + n) := Fr.rev (Nat.le_refl _) (by omega) (by omega)
  obtain ⟨k, e, h1, h2, h3, _⟩ := asc_ok O (p := rev p l (l + m)) (l := l) (n - m) m (by rw [fr.1]; omega) h0 (dno_rev hd (by omega))
  unfold cTail
  rw [e, Option.map_some]
  exact ⟨_, rfl, by dsimp only; omega, by dsimp only; omega, fr, h3⟩
theorem down_ok {p : Array Nat} {l m n : Nat} (hn : l + n ≤ p.size) (hm : m < n) (h0 : 0 < m) (hd : Dno lt p l m) (e : lt (at0 p (l + m)) (at0 p (l + m - 1)) = true) : ∃ r, cDown (cT lt) l n p m = some r ∧ 1 ≤ r.1 ∧ r.1 ≤ n ∧ Fr p r.2 l (l + n) ∧ Upo lt r.2 l r.1 := by
  have hd1 := dno_more O hd h0 (O.asym _ _ e)
  have hb1 : Blo lt p l (m + 1) 0 := ⟨by omega, fun i j h1 h2 h3 h4 => by
    obtain rfl : i = m := by omega
    obtain rfl : j = i := by omega
    exact irr O _⟩
  obtain ⟨d, e0, r1, r2, r3, r4, r5⟩ := desc_ok O (n - (m + 1)) p (m + 1) 0 (by omega) (by omega) hd1 hb1
  have r1 := r1.mono (show l + (m + 1) + (n - (m + 1)) ≤ l + n by omega)
  unfold cDown
  rw [e0, Option.bind_some]
  have b1 := r5.1
  by_cases hq : d.2.2 > 0
  · rw [if_pos hq]
    have fr : Fr d.1 (rev d.1 (l + d.2.1 - (d.2.2 + 1)) (l + d.2.1)) l (l + n) := Fr.rev (by omega) (by omega) (by rw [r1.1]; omega)
    obtain ⟨r, t0, t1, t2, t3, t4⟩ := tail_ok O (p := rev d.1 (l + d.2.1 - (d.2.2 + 1)) (l + d.2.1)) (l := l) (m := d.2.1) (n := n) (by rw [fr.1, r1.1]; exact hn) (by omega) (by omega) (dno_blk r4 (by rw [r1.1]; omega) r5)
    exact ⟨r, t0, t1, t2, (r1.trans fr).trans t3, t4⟩
  · rw [if_neg hq]
    obtain ⟨r, t0, t1, t2, t3, t4⟩ := tail_ok O (p := d.1) (l := l) (m := d.2.1) (n := n) (by rw [r1.1]; exact hn) (by omega) (by omega) r4
    exact ⟨r, t0, t1, t2, r1.trans t3, t4⟩
theorem run_ok {p : Array Nat} {l n : Nat} (hn : l + n ≤ p.size) (h0 : 0 < n) : ∃ r, cRun (cT lt) l n p = some r ∧ 1 ≤ r.1 ∧ r.1 ≤ n ∧ Fr p r.2 l (l + n) ∧ Upo lt r.2 l r.1 := by
  obtain ⟨m, e, h1, h2, h3, h4⟩ := asc_ok O (p := p) (l := l) (n - 1) 1 (by omega) (by decide) (fun i j a b => absurd b (by omega))
  unfold cRun
  rw [e, Option.bind_some]
  by_cases hm : (m == n) = true
  · rw [if_pos hm]
    exact ⟨_, rfl, h1, by dsimp only; omega, Fr.refl _ _ _, h3⟩
  have hm' : m ≠ n := fun z => hm (beq_of z)
  rw [if_neg hm]
  have st := h4 (by omega)
  by_cases h5 : m > 1
  · rw [if_pos h5, cAt_at (by omega) (by omega), Option.bind_some]
    cases e1 : lt (at0 p l) (at0 p (l + m - 1)) with
    | true =>
      rw [if_pos rfl]
      exact ⟨_, rfl, h1, by dsimp only; omega, Fr.refl _ _ _, h3⟩
    | false =>
      rw [if_neg Bool.false_ne_true]
      have fr : Fr p (rev p l (l + m)) l (l + n) := Fr.rev (Nat.le_refl _) (by omega) (by omega)
      obtain ⟨r, t0, t1, t2, t3, t4⟩ := down_ok O (p := rev p l (l + m)) (l := l) (m := m) (n := n) (by rw [fr.1]; exact hn) (by omega) (by omega) (upo_rev h3 (by omega)) (by
        rw [rvo_at (by omega), rvo_at (by omega), if_neg (by omega), if_pos ⟨by omega, by omega⟩, show l + (l + m) - 1 - (l + m - 1) = l by omega]
        cases h : lt (at0 p (l + m)) (at0 p l) with
        | true => rfl
        | false => have := O.tr _ _ _ e1 h; rw [st] at this; cases this)
      exact ⟨r, t0, t1, t2, fr.trans t3, t4⟩
  · rw [if_neg h5]
    obtain rfl : m = 1 := by omega
    exact down_ok O hn (by omega) (by decide) (fun i j a b => absurd b (by omega)) st
theorem place_ok {p : Array Nat} {l k : Nat} (hk : l + k < p.size) (hu : Upo lt p l k) : ∃ t, iter (bPl (cT lt) p l k) k (0, k) = some t ∧ t.1 ≤ k ∧ (∀ i, i < t.1 → lt (at0 p (l + k)) (at0 p (l + i)) = false) ∧ ∀ i, t.1 ≤ i → i < k → lt (at0 p (l + k)) (at0 p (l + i)) = true :=
  iter_run (step := bPl (cT lt) p l k) (fun t => t.1 ≤ t.2 ∧ t.2 ≤ k ∧ (∀ i, i < t.1 → lt (at0 p (l + k)) (at0 p (l + i)) = false) ∧ ∀ i, t.2 ≤ i → i < k → lt (at0 p (l + k)) (at0 p (l + i)) = true) (fun t => t.2 - t.1) (fun t => t.1 ≤ k ∧ (∀ i, i < t.1 → lt (at0 p (l + k)) (at0 p (l + i)) = false) ∧ ∀ i, t.1 ≤ i → i < k → lt (at0 p (l + k)) (at0 p (l + i)) = true) (fun t ⟨a1, a2, a3, a4⟩ => by
    unfold bPl
    by_cases h : t.1 ≥ t.2
    · exact ⟨_, if_pos h, fun _ => ⟨by dsimp only; omega, a3, fun i (h1 : t.1 ≤ i) h2 => a4 i (by omega) h2⟩, fun z => (by cases z)⟩
    · rw [if_neg h, cAt_at (by omega) (by omega), Option.bind_some]
      cases e : lt (at0 p (l + k)) (at0 p (l + (t.1 + t.2) / 2)) with
      | true =>
        rw [if_pos rfl]
        refine ⟨_, rfl, fun z => (by cases z), fun _ => ⟨⟨by dsimp only; omega, by dsimp only; omega, a3, fun i h1 h2 => ?_⟩, by dsimp only; omega⟩⟩
        dsimp only at h1
        by_cases hi : i = (t.1 + t.2) / 2
        · subst hi; exact e
        · cases q : lt (at0 p (l + k)) (at0 p (l + i)) with
          | true => rfl
          | false => have := O.tr _ _ _ (hu ((t.1 + t.2) / 2) i (by omega) h2) q; rw [e] at this; cases this
      | false =>
        rw [if_neg Bool.false_ne_true]
        refine ⟨_, rfl, fun z => (by cases z), fun _ => ⟨⟨by dsimp only; omega, by dsimp only; omega, fun i h1 => ?_, a4⟩, by dsimp only; omega⟩⟩
        dsimp only at h1
        by_cases hi : i = (t.1 + t.2) / 2
        · subst hi; exact e
        · exact O.tr _ _ _ (hu i ((t.1 + t.2) / 2) (by omega) (by omega)) e) (fun t ⟨a1, a2, a3, a4⟩ z => ⟨by omega, a3, fun i h1 h2 => a4 i (by omega) h2⟩) k (0, k) ⟨Nat.zero_le _, Nat.le_refl _, fun i z => absurd z (Nat.not_lt_zero _), fun i z1 z2 => absurd z2 (by dsimp only at z1; omega)⟩ (by dsimp only; omega)
theorem bin_ok {l : Nat} : ∀ (f k : Nat) (p : Array Nat), 0 < k → l + k + f ≤ p.size → Upo lt p l k → ∃ q, iterI (bIns (cT lt) l) f k p = some q ∧ Fr p q l (l + k + f) ∧ Upo lt q l (k + f)
  | 0, k, p, _, _, h => ⟨p, rfl, Fr.refl _ _ _, h⟩
  | f + 1, k, p, h0, hs, hu => by
    obtain ⟨t, e, a1, a2, a3⟩ := place_ok O (p := p) (l := l) (k := k) (by omega) hu
    unfold iterI bIns
    rw [e, Option.map_some, Option.bind_some, if_neg Bool.false_ne_true]
    have fr : Fr p (bubble p (l + k) (l + k - (l + t.1))) l (l + k + (f + 1)) := Fr.bub (by omega) (by omega) (by omega) (by omega)
    have hu2 : Upo lt (bubble p (l + k) (l + k - (l + t.1))) l (k + 1) := by
      intro i j hij hj
      rw [bub_at (by omega) (by omega), bub_at (by omega) (by omega), show l + k - (l + k - (l + t.1)) = l + t.1 by omega]
      by_cases j1 : j = t.1
      · rw [if_pos (by omega), if_neg (by omega), if_neg (by omega)]
        exact a2 i (by omega)
      · rw [if_neg (c := l + j = l + t.1) (by omega)]
        by_cases j2 : t.1 < j
        · rw [if_pos (c := l + t.1 < l + j ∧ l + j ≤ l + k) ⟨by omega, by omega⟩, show l + j - 1 = l + (j - 1) by omega]
          by_cases i1 : i = t.1
          · rw [if_pos (by omega)]
            exact O.asym _ _ (a3 (j - 1) (by omega) (by omega))
          · rw [if_neg (c := l + i = l + t.1) (by omega)]
            by_cases i2 : t.1 < i
            · rw [if_pos ⟨by omega, by omega⟩, show l + i - 1 = l + (i - 1) by omega]
              exact hu _ _ (by omega) (by omega)
            · rw [if_neg (by omega)]; exact hu _ _ (by omega) (by omega)
        · rw [if_neg (c := l + t.1 < l + j ∧ l + j ≤ l + k) (by omega), if_neg (by omega), if_neg (by omega)]
          exact hu _ _ hij (by omega)
    obtain ⟨q, e2, f1, f2⟩ := bin_ok f (k + 1) _ (by omega) (by rw [fr.1]; omega) hu2
    exact ⟨q, e2, fr.trans (f1.mono (by omega)), by rw [show k + (f + 1) = k + 1 + f by omega]; exact f2⟩
end
end L2
namespace L2
open PySem PySem.Spec PyProof.Rows PySem.W
theorem Ct.like {b : Nat} : ∀ {xs ys : List (Nat × Nat × Nat)} {a : Nat}, xs.map (fun x => (x.1, x.2.1)) = ys.map (fun x => (x.1, x.2.1)) → Ct a xs b → Ct a ys b
  | [], [], _, _, h => h
  | u :: xs, v :: ys, a, e, ⟨h1, h2, h3⟩ => by
    rw [List.map_cons, List.map_cons] at e
    injection e with e1 e2
    injection e1 with e3 e4
    exact ⟨by rw [← e3]; exact h1, by rw [← e4]; exact h2, by rw [← e4]; exact Ct.like e2 h3⟩
theorem OkT.like {lt : Nat → Nat → Bool} {n hi g : Nat} {t : Ts} {pd : Pd} (h : OkT lt n hi t) (e : pd.toList.map (fun x => (x.1, x.2.1)) = t.2.1.toList.map (fun x => (x.1, x.2.1))) : OkT lt n hi (t.1, pd, g) := by
  obtain ⟨h1, h2, h3, h4⟩ := h
  refine ⟨h1, h2.like e.symm, h3, fun u hu => ?_⟩
  have : (u.1, u.2.1) ∈ t.2.1.toList.map (fun x => (x.1, x.2.1)) := by rw [← e]; exact List.mem_map.mpr ⟨u, hu, rfl⟩
  obtain ⟨v, hv, ev⟩ := List.mem_map.mp this
  injection ev with e1 e2
  rw [← e1, ← e2]
  exact h4 v hv
theorem OkT.push {lt : Nat → Nat → Bool} {n lo m k g : Nat} {t : Ts} (h : OkT lt n lo t) (h1 : 1 ≤ m) (h2 : lo + m ≤ n) (hu : Upo lt t.1 lo m) : OkT lt n (lo + m) (t.1, t.2.1.push (lo, m, k), g) := by
  obtain ⟨a1, a2, a3, a4⟩ := h
  refine ⟨a1, ?_, h2, fun u hu' => ?_⟩
  · dsimp only
    rw [Array.toList_push]
    exact Ct.app.mpr ⟨lo, a2, rfl, h1, rfl⟩
  · dsimp only at hu'
    rw [Array.toList_push] at hu'
    rcases List.mem_append.mp hu' with hu' | hu'
    · exact a4 u hu'
    · rw [List.mem_singleton.mp hu']; exact hu
theorem OkT.frame {lt : Nat → Nat → Bool} {n lo r : Nat} {t : Ts} (h : OkT lt n lo t) {p : Array Nat} (f : Fr t.1 p lo r) {g : Nat} : OkT lt n lo (p, t.2.1, g) := by
  obtain ⟨a1, a2, a3, a4⟩ := h
  refine ⟨f.2.1 n a1, a2, a3, fun u hu => ?_⟩
  have := a2.mem hu
  exact (a4 u hu).keep fun i h1 h2 => f.2.2 i (.inl (by omega))
theorem OkT.few {lt : Nat → Nat → Bool} {n lo : Nat} {t : Ts} (h : OkT lt n lo t) : t.2.1.size ≤ n := by
  have := h.2.1.le
  have := h.2.2.1
  rw [Array.length_toList] at *
  omega
section
variable {lt : Nat → Nat → Bool} (O : Ordr lt)
include O
theorem push_ok {n lo m : Nat} {t : Ts} (h : OkT lt n lo t) (h1 : 1 ≤ m) (h2 : lo + m ≤ n) (hu : Upo lt t.1 lo m) : ∃ r, sPush (cT lt) n lo m t = some r ∧ r.1 = false ∧ r.2.1 = lo + m ∧ OkT lt n (lo + m) r.2.2 := by
  unfold sPush
  cases hb : t.2.1.back? with
  | none => exact ⟨_, rfl, rfl, rfl, h.push h1 h2 hu⟩
  | some u =>
    dsimp only
    generalize power' n (2 * u.1 + u.2.1) (2 * u.1 + u.2.1 + u.2.1 + m) n = pw
    obtain ⟨t', e, k1, k2⟩ := iter_run (step := sCol (cT lt) pw) (fun t => OkT lt n lo t ∧ Upo lt t.1 lo m) (fun t => t.2.1.size) (fun t => OkT lt n lo t ∧ Upo lt t.1 lo m) (fun t ⟨a1, a2⟩ => by
      unfold sCol
      by_cases hz : t.2.1.size > 1
      · rw [if_pos hz, Array.getElem?_eq_getElem (by omega)]
        dsimp only
        split
        · exact ⟨_, rfl, fun _ => ⟨a1, a2⟩, fun z => (by cases z)⟩
        · obtain ⟨t2, e, b1, b2, b3⟩ := mAt_ok O a1 (i := t.2.1.size - 2) (by omega)
          rw [e, Option.bind_some]
          exact ⟨_, rfl, fun z => (by cases z), fun _ => ⟨⟨b1, a2.keep fun i h1 _ => b3 i h1⟩, by dsimp only; omega⟩⟩
      · rw [if_neg hz]
        exact ⟨_, rfl, fun _ => ⟨a1, a2⟩, fun z => (by cases z)⟩) (fun t h _ => h) n t ⟨h, hu⟩ h.few
    rw [e, Option.bind_some]
    have k3 : OkT lt n lo (t'.1, t'.2.1.modify (t'.2.1.size - 1) fun x => (x.1, x.2.1, pw), t'.2.2) := k1.like (by
      rw [Array.toList_modify]
      refine List.ext_getElem? fun i => ?_
      rw [List.getElem?_map, List.getElem?_map, List.getElem?_modify]
      split
      · cases t'.2.1.toList[i]? <;> rfl
      · simp)
    exact ⟨_, rfl, rfl, rfl, k3.push h1 h2 k2⟩
theorem sRun_ok {n : Nat} {g : Nat × Ts} (h : OkT lt n g.1 g.2) : ∃ r, sRun (cT lt) n g = some r ∧ (r.1 = true → OkT lt n n r.2.2) ∧ (r.1 = false → OkT lt n r.2.1 r.2.2 ∧ n - r.2.1 < n - g.1) := by
  unfold sRun
  have hn := h.2.2.1
  by_cases hz : g.1 ≥ n
  · rw [if_pos hz]
    have : g.1 = n := by omega
    exact ⟨_, rfl, fun _ => by rw [this] at h; exact h, fun z => (by cases z)⟩
  rw [if_neg hz]
  have hs := h.1.size
  obtain ⟨r, e, r1, r2, r3, r4⟩ := run_ok O (p := g.2.1) (l := g.1) (n := n - g.1) (by omega) (by omega)
  rw [e, Option.bind_some]
  by_cases hm : r.1 < minRun' n n 0
  · rw [if_pos hm]
    generalize em : min (n - g.1) (minRun' n n 0) = m
    have m1 : r.1 ≤ m := by omega
    have m2 : m ≤ n - g.1 := by omega
    unfold bSort
    rw [show max r.1 1 = r.1 by omega]
    obtain ⟨q, e2, q1, q2⟩ := bin_ok O (l := g.1) (m - r.1) r.1 r.2 (by omega) (by rw [r3.1]; omega) r4
    rw [e2, Option.bind_some]
    rw [show r.1 + (m - r.1) = m by omega] at q2
    have f2 := r3.trans (q1.mono (show g.1 + r.1 + (m - r.1) ≤ g.1 + (n - g.1) by omega))
    obtain ⟨s, e3, s1, s2, s3⟩ := push_ok O (m := m) (h.frame f2 (g := g.2.2.2)) (by omega) (by omega) q2
    refine ⟨s, e3, fun z => (by rw [s1] at z; cases z), fun _ => ?_⟩
    rw [s2]
    exact ⟨s3, by omega⟩
  · rw [if_neg hm]
    obtain ⟨s, e3, s1, s2, s3⟩ := push_ok O (m := r.1) (h.frame r3 (g := g.2.2.2)) (by omega) (by omega) r4
    refine ⟨s, e3, fun z => (by rw [s1] at z; cases z), fun _ => ?_⟩
    rw [s2]
    exact ⟨s3, by omega⟩
/-- the whole sort ends, in order -/
theorem sAll_ok (n : Nat) : ∃ p, sAll (cT lt) n = some p ∧ Ord n p ∧ Upo lt p 0 n := by
  unfold sAll
  obtain ⟨g, e, hg⟩ := iter_run (step := sRun (cT lt) n) (fun g => OkT lt n g.1 g.2) (fun g => n - g.1) (fun g => OkT lt n n g.2) (fun g h => sRun_ok O h) (fun g h z => by
    have := h.2.2.1
    rw [show g.1 = n by omega] at h
    exact h) n (0, List.toArray (List.range n), #[], 7) ⟨Array.Perm.refl _, rfl, Nat.zero_le _, fun u hu => by cases hu⟩ (Nat.sub_le _ _)
  rw [e, Option.bind_some]
  obtain ⟨t, e2, ht, ht2⟩ := iter_run (step := sEnd (cT lt)) (fun t => OkT lt n n t) (fun t => t.2.1.size) (fun t => OkT lt n n t ∧ t.2.1.size ≤ 1) (fun t h => by
    unfold sEnd
    by_cases hz : t.2.1.size ≤ 1
    · rw [if_pos hz]
      exact ⟨_, rfl, fun _ => ⟨h, hz⟩, fun z => (by cases z)⟩
    · rw [if_neg hz]
      generalize hi : (if Option.any (fun x => decide (x < t.2.1[t.2.1.size - 2 + 1]?.elim 0 fun x => x.2.1)) (if t.2.1.size - 2 > 0 then Option.map (fun x => x.2.1) t.2.1[t.2.1.size - 2 - 1]? else none) = true then t.2.1.size - 2 - 1 else t.2.1.size - 2) = i
      have hi2 : i + 1 < t.2.1.size := by
        have aux : ∀ b : Bool, (if b = true then t.2.1.size - 2 - 1 else t.2.1.size - 2) + 1 < t.2.1.size := fun b => by
          cases b
          · rw [if_neg Bool.false_ne_true]; omega
          · rw [if_pos rfl]; omega
        rw [← hi]
        exact aux _
      obtain ⟨t2, e, b1, b2, b3⟩ := mAt_ok O h hi2
      rw [e, Option.bind_some]
      exact ⟨_, rfl, fun z => (by cases z), fun _ => ⟨b1, by dsimp only; omega⟩⟩) (fun t h z => ⟨h, by omega⟩) n g.2 hg hg.few
  rw [e2, Option.map_some]
  refine ⟨_, rfl, ht.1, ?_⟩
  obtain ⟨h1, h2, _, h4⟩ := ht
  match hl : t.2.1.toList with
  | [] =>
    rw [hl] at h2
    cases h2
    exact fun i j _ z => absurd z (Nat.not_lt_zero _)
  | [u] =>
    rw [hl] at h2 h4
    obtain ⟨a1, a2, a3⟩ := h2
    have := h4 u (by simp)
    rw [a1] at this
    have a3 : 0 + u.2.1 = n := a3
    rw [show u.2.1 = n by omega] at this
    exact this
  | u :: v :: r =>
    have : t.2.1.size = (u :: v :: r).length := by rw [← hl, Array.length_toList]
    simp at this
    omega
end
end L2
/-! ### sorted(xs), xs a list of any many tuples of ints of one length: the sorted list -/
namespace L2
open PySem PySem.Spec PyProof.Rows PySem.W
section
variable {prog : Program} {w : World} {A : Around} {E : Value → Shared → Prop} {s : Shared}
def clampI (n i : Nat) : Nat := if i < n then i else 0
theorem sort_tot {lt : Nat → Nat → Bool} (O : Ordr lt) {kd : SortKind} {a : Addr} {vs : List Value} {n : Nat} {P : PySem.Fin → Shared → Prop} (ho : s.heap.get? a = some (seqObj "list" vs.toArray n)) (h2 : 2 ≤ vs.length) (hL : vs.length ≤ 1000)
    (hkd : ∀ (R : SortKind → Shared → Prop), R kd { s with heap := sortIn s.heap a vs } → wpAny (model prog w) A (keyKind' vs.toArray) R E { s with heap := sortIn s.heap a vs })
    (hd : ∀ i j, lt i j = lt (clampI vs.length i) (clampI vs.length j))
    (hc : ∀ i j, i < vs.length → j < vs.length → ∀ C : Bool → Shared → Prop, C (lt i j) { s with heap := sortIn s.heap a vs } → wpAny (model prog w) A (keyLt' kd (vs.getD i .none) (vs.getD j .none)) C (fun _ _ => False) { s with heap := sortIn s.heap a vs })
    (h : ∀ p, Ord vs.length p → Upo lt p 0 vs.length → P (.done (.ret .none)) { s with heap := sortedHeap s.heap a vs (p.map fun i => vs.getD i .none) }) : wpAny (model prog w) A (Builtin.«list.sort» ⟨[.ref a], []⟩) P E s := by
  rw [list_sort_plain]
  have ha : a < s.heap.objs.size := Heap.lt_size ho
  refine wpAny_bind (listItems_at ho rfl ?_)
  refine wpAny_bind (listUpdate_at ho rfl ?_ (by rw [List.size_toArray, sizeLine_eq]; omega) (Nat.zero_le _))
  obtain ⟨e1, ho1⟩ : ∃ e1, (s.heap.update a (Obj.mapSeq fun _ => (#[] : Array Value))).get? a = some (seqObj "list" #[] e1) := ⟨_, get?_update_seq ho (fun _ => #[])⟩
  refine wpAny_bind (seqEpoch_at ho1 rfl ?_)
  refine wpAny_bind (wpAny_newTuple ?_ (by show vs.length ≤ _; rw [sizeLine_eq]; omega))
  refine wpAny_bind (wpAny_newList ?_ (Nat.zero_le _))
  refine wpAny_holding ?_
  have ho6 : (sortIn s.heap a vs).get? a = some (seqObj "list" #[] e1) := by
    rw [Heap.get?_push_ne _ _ _ (by rw [size_push', Heap.size_update]; exact Nat.ne_of_lt (Nat.lt_succ_of_lt ha)), Heap.get?_push_ne _ _ _ (by rw [Heap.size_update]; exact Nat.ne_of_lt ha)]
    exact ho1
  show wpAny (model prog w) A _ P E { s with heap := sortIn s.heap a vs }
  dsimp only
  have hn2 : ¬ vs.toArray.size < 2 := by rw [List.size_toArray]; omega
  rw [if_neg hn2, if_neg hn2]
  refine wpAny_bind (hkd _ ?_)
  obtain ⟨p, hs, hp, up⟩ := sAll_ok O vs.length
  have hct : Told kd prog w A { s with heap := sortIn s.heap a vs } (fun i => valAt vs (clampI vs.length i)) (cT lt) := fun i j b hb C hC => by
    have hb : lt i j = b := Option.some.inj hb
    have ci : ∀ i, clampI vs.length i < vs.length := fun i => by
      unfold clampI
      split <;> omega
    rw [← hb, hd] at hC
    exact hc _ _ (ci i) (ci j) C hC
  have run := told_sort (E := E) hct hs (Q := fun _ st' => arrOf st' = p.map (fun i => valAt vs (clampI vs.length i)) ∧ failedOf st' = none) fun pd g => ⟨rfl, rfl⟩
  have emap : ∀ q : Array Nat, (∀ i ∈ q.toList, i < vs.length) → q.map (fun i => valAt vs (clampI vs.length i)) = q.map (valAt vs) := fun q hq => Array.map_congr_left fun i hi => by
    have : i < vs.length := hq i (by simpa using hi)
    show valAt vs (clampI vs.length i) = _
    unfold clampI
    rw [if_pos this]
  have est : sst kd (fun i => valAt vs (clampI vs.length i)) (List.toArray (List.range vs.length)) #[] 7 = SortSt.mk' kd (vs.toArray.zip vs.toArray) #[] 7 none := by
    show SortSt.mk' kd ((List.toArray (List.range vs.length)).map (fun i => valAt vs (clampI vs.length i))) #[] 7 none = _
    rw [emap _ (fun i hi => by simpa using hi), valAt_range]
  rw [est] at run
  refine wpAny_bind (wpAny_mono run ?_ fun _ _ e => e)
  rintro ⟨⟨⟩, st'⟩ s' ⟨rfl, har, hf⟩
  dsimp only at har hf ⊢
  have eo : (arrOf st').map (·.2) = p.map fun i => vs.getD i .none := by
    rw [har, emap p (fun i hi => hp.lt hi), Array.map_map]
    rfl
  rw [eo]
  refine wpAny_bind (seqEpoch_at ho6 rfl ?_)
  refine wpAny_bind (listUpdate_at ho6 rfl ?_ (Nat.zero_le _) (by rw [Array.size_map, sizeLine_eq, hp.size]; omega))
  rw [hf]
  simp only [bne_self_eq_false, Bool.false_eq_true, if_false]
  exact wpAny_pure (h p hp up)
theorem sorted_tot {lt : Nat → Nat → Bool} (O : Ordr lt) {kd : SortKind} {l : Addr} {vs : List Value} {Q : Value → Shared → Prop} (hl : s.heap.IsList l vs.toArray) (h2 : 2 ≤ vs.length) (hL : vs.length ≤ 1000)
    (hkd : ∀ (R : SortKind → Shared → Prop) (E : Value → Shared → Prop), R kd { s with heap := sortedIn s.heap vs } → wpAny (model prog w) A.in1.in1 (keyKind' vs.toArray) R E { s with heap := sortedIn s.heap vs })
    (hd : ∀ i j, lt i j = lt (clampI vs.length i) (clampI vs.length j))
    (hc : ∀ i j, i < vs.length → j < vs.length → ∀ C : Bool → Shared → Prop, C (lt i j) { s with heap := sortedIn s.heap vs } → wpAny (model prog w) A.in1.in1 (keyLt' kd (vs.getD i .none) (vs.getD j .none)) C (fun _ _ => False) { s with heap := sortedIn s.heap vs })
    (h : ∀ p, Ord vs.length p → Upo lt p 0 vs.length → Q (.ref (s.heap.objs.size + 1)) { s with heap := sortedAll s.heap vs (p.map fun i => vs.getD i .none) }) : wpAny (model prog w) A (call (.builtin "sorted") [.ref l]) Q E s := by
  refine Calls.call_function_entry kind_sorted plain_sorted entry_sorted (args_sorted1 _) ?_
  unfold Builtin.«sorted»
  refine wpAny_bind (m := checkCount "sorted" 1 1 _) (wpAny_pure ?_)
  refine wpAny_bind (collect_list hl ?_ (by rw [sizeLine_eq]; omega))
  refine wpAny_bind (wpAny_newList ?_ (by rw [sizeLine_eq]; omega))
  have hsz : ((s.heap.push (seqObj "list" #[] 0)).update s.heap.objs.size (Obj.mapSeq (· ++ vs.toArray))).objs.size = s.heap.objs.size + 1 := by
    rw [Heap.size_update, size_push']
  have hoL : (((s.heap.push (seqObj "list" #[] 0)).update s.heap.objs.size (Obj.mapSeq (· ++ vs.toArray))).push (seqObj "list" vs.toArray 0)).get? (s.heap.objs.size + 1) = some (seqObj "list" vs.toArray 0) := by
    rw [← hsz]; exact Heap.get?_push_size _ rfl
  show wpAny _ _ _ _ _ { s with heap := ((s.heap.push (seqObj "list" #[] 0)).update s.heap.objs.size (Obj.mapSeq (· ++ vs.toArray))).push (seqObj "list" vs.toArray 0) }
  rw [hsz]
  refine wpAny_bind (wpAny_holding (wpAny_call_entry slot_list_sort ⟨_, hoL, rfl⟩ entry_list_sort (sort_tot O (s := { s with heap := ((s.heap.push (seqObj "list" #[] 0)).update s.heap.objs.size (Obj.mapSeq (· ++ vs.toArray))).push (seqObj "list" vs.toArray 0) }) hoL h2 hL (fun R => hkd R _) hd hc fun p hp up => ⟨_, rfl, ?_⟩) (args_list_sort _)))
  exact wpAny_pure ⟨_, rfl, h p hp up⟩
end
/-- sorted, of a list of tuples of m ints: the sorted list, up to 1000 -/
def rSortW : List V → Hp → VK → Prop := fun vs H Q => ∃ (v : V) (xss : List (List Int)) (m : Nat), vs = [v] ∧ Is H (.l (xss.map tI)) v ∧ 0 < m ∧ (∀ xs ∈ xss, xs.length = m) ∧ xss.length ≤ 1000 ∧
  ∀ (yss : List (List Int)) (q : Addr) (H' : Hp), yss.Perm xss → (∀ i j, i < j → j < yss.length → ltI (yss.getD j []) (yss.getD i []) = false) → H q = none → Same H H' → Is H' (.l (yss.map tI)) (.ref q) → Q (.ref q) H'
section
variable {X : Cx} {pins : List (Addr × Obj)} {σ : St} {H : Hp} {s : Shared}
theorem call_sortW : CallR X (.builtin "sorted") rSortW := by
  intro pins s σ H xs us Q I r h
  obtain ⟨v, xss, m, rfl, hv, hm, hne', hlen, q⟩ := h
  have hne : ∀ xs ∈ xss, xs ≠ [] := fun xs hx z => by have := hne' xs hx; rw [z] at this; exact absurd this (by show ¬ 0 = m; omega)
  obtain ⟨l, rs, rfl, hl, hi⟩ := of_l hv
  have hrs : rs.length = xss.length := by rw [hi.length, List.length_map]
  obtain ⟨u, rfl, rx⟩ := vals1 r
  cases rx
  obtain ⟨its, r', pl, hz⟩ := I.list (SqL.of (K := X.K) hl)
  have ln := r'.length
  by_cases h2 : rs.length < 2
  · refine sorted_few (vs := its) pl.isList (by omega) ?_
    obtain ⟨e, he⟩ := sortedAll_at s.heap its its.toArray
    have fr := I.hok.fresh (a := s.heap.objs.size + 1) (Nat.le_succ _)
    exact ⟨.ref (s.heap.objs.size + 1), _, I.laid (t' := s.toks) (fun _ _ => sortedAll_old) (Nat.le_succ _) (show ObjOk X.prog X.w _ _ _ (.lst rs) from ⟨hz, its, e, r', he⟩), rfl, q xss _ _ (List.Perm.refl _) (fun i j a b => absurd b (by omega)) fr (Same.new fr) (is_l upd_same (hi.mono (Same.new fr)))⟩
  · have I2 : Inv X pins σ H { s with heap := sortedIn s.heap its } := I.kept (t' := s.toks) fun b o e => sortedIn_old e
    have lns : its.length = xss.length := by omega
    have kC : ∀ i, keyC xss i = keyC xss (clampI xss.length i) := fun i => by
      unfold clampI
      by_cases h : i < xss.length
      · rw [if_pos h]
      · rw [if_neg h]
        unfold keyC
        rw [List.getD_eq_getElem?_getD, List.getD_eq_getElem?_getD, List.getElem?_eq_none (by omega)]
        cases xss with
        | nil => rfl
        | cons x xs => rfl
    refine sorted_tot (ordr_of (xss := xss) (m := m) (by omega) hne') (kd := tuples' true) (vs := its) pl.isList (by omega) (by omega) (fun R E hR => ?_) (fun i j => ?_) (fun i j hi' hj' C hC => ?_) fun p ho up => ?_
    · obtain ⟨fs, k1, k2, k3⟩ := kat_tups I2 hi r' hne
      exact kat_kind (T := .type "int") k1 (by omega) (fun f hf => by obtain ⟨z, t, rfl⟩ := k3 f hf; exact .now) rfl hR
    · rw [lns]
      unfold ordC
      rw [kC i, kC j]
    · have g : ∀ i, i < xss.length → ∃ a, its.getD i .none = .ref a ∧ SqT X.K H a ((xss.getD i []).map V.int) := fun i h => by
        have hr : i < rs.length := by omega
        obtain ⟨d, hd, h1⟩ := hi.of_get (List.getElem?_eq_getElem hr)
        rw [List.getElem?_map, List.getElem?_eq_getElem h] at hd
        cases hd
        obtain ⟨a, ea, ha⟩ := of_tI h1
        obtain ⟨u, hu1, ru⟩ := r'.get (List.getElem?_eq_getElem hr)
        rw [ea] at ru
        obtain rfl : u = Value.ref a := ru
        refine ⟨a, ?_, ?_⟩
        · rw [List.getD_eq_getElem?_getD, hu1]; rfl
        · rw [List.getD_eq_getElem?_getD, List.getElem?_eq_getElem h]
          exact SqT.of ha
      obtain ⟨a1, e1, s1⟩ := g i (by omega)
      obtain ⟨a2, e2, s2⟩ := g j (by omega)
      rw [e1, e2]
      rw [ordC_in (by omega) (by omega)] at hC
      exact key_ints I2 s1 s2 hC
    · rw [lns] at ho up
      have hpl : ∀ i ∈ p.toList, i < xss.length := fun i hi => ho.lt hi
      obtain ⟨e, he⟩ := sortedAll_at s.heap its (p.map fun i => its.getD i .none)
      have en : (p.map fun i => its.getD i .none) = List.toArray (p.toList.map fun i => its.getD i .none) := by
        apply Array.toList_inj.mp
        simp
      rw [en] at he ⊢
      have fr := I.hok.fresh (a := s.heap.objs.size + 1) (Nat.le_succ _)
      refine ⟨.ref (s.heap.objs.size + 1), _, I.laid (t' := s.toks) (fun _ _ => sortedAll_old) (Nat.le_succ _) (show ObjOk X.prog X.w _ _ _ (.lst (p.toList.map fun i => rs.getD i .non)) from ⟨?_, _, e, vals_getD r' p.toList (fun i hi => by rw [hrs]; exact hpl i hi), he⟩), rfl, q (p.toList.map fun i => xss.getD i []) _ _ ?_ ?_ fr (Same.new fr) (is_l upd_same ((iss_getD hi p.toList hpl).mono (Same.new fr)))⟩
      · rw [List.length_map, Array.length_toList, sizeLine_eq, ho.size]
        omega
      · have pp := (Array.perm_iff_toList_perm.mp ho).map fun i => xss.getD i []
        rw [show (List.range xss.length).toArray.toList = List.range xss.length from rfl, map_getD] at pp
        exact pp
      · intro i j hij hj
        rw [List.length_map, Array.length_toList, ho.size] at hj
        have up := up i j hij hj
        rw [Nat.zero_add, Nat.zero_add] at up
        have g : ∀ i, i < xss.length → (p.toList.map fun i => xss.getD i []).getD i [] = xss.getD (at0 p i) [] ∧ at0 p i < xss.length := fun i h => by
          have hs : i < p.size := by rw [ho.size]; exact h
          have e : at0 p i = p[i] := by simp [at0, Array.getD, hs]
          rw [e]
          refine ⟨?_, ho.lt (by simp)⟩
          rw [List.getD_eq_getElem?_getD, List.getElem?_map]
          simp [hs]
        obtain ⟨g1, g2⟩ := g i (by omega)
        obtain ⟨g3, g4⟩ := g j hj
        rw [g1, g3]
        rw [ordC_in g4 g2] at up
        exact up
end
end L2
/-! ### a comprehension over a tuple; isinstance in one -/
namespace L2
open PySem PySem.Spec PyProof.Rows
/-- over a tuple -/
theorem comp_tup {K : PySem.W.Frag} {a : Addr} {xs : List V} {own : Nat} {js : List Nat} {g : TG} {ti : TT} {te : TE} {σ : St} {H1 : Hp} {acc : Addr} {Q : VK} (Pv : Nat → Hp → Prop) (h0 : Pv 0 (upd H1 acc (.lst []))) (hl : ∀ i H2, i ≤ xs.length → Pv i H2 → SqT K H2 a xs)
    (hs : ∀ i x H2, xs[i]? = some x → Pv i H2 → g x (capt own js σ) H2 fun σ4 H4 => ti σ4 H4 fun b H5 => if b = true then te σ4 H5 fun y H6 => rAppend (.ref acc) [y] H6 fun _ H7 => Pv (i + 1) H7 else Pv (i + 1) H5) (hd : ∀ H2, Pv xs.length H2 → Q (.ref acc) H2)
    (mono : ∀ σ H (R R' : St → Hp → Prop) x, (∀ σ' H', R σ' H' → R' σ' H') → g x σ H R → g x σ H R') (monoT : ∀ σ H (R R' : Bool → Hp → Prop), (∀ b H', R b H' → R' b H') → ti σ H R → ti σ H R') (monoE : ∀ σ H (R R' : VK), (∀ v H', R v H' → R' v H') → te σ H R → te σ H R') :
    CompW (Itt K a) own js g ti te σ H1 acc Q := by
  refine ⟨fun i m H2 => m = xs.length - i ∧ i ≤ xs.length ∧ Pv i H2, ⟨xs.length, by simp, Nat.zero_le _, h0⟩, ?_⟩
  rintro i m H2 ⟨rfl, hi, p⟩
  have q := hl i H2 hi p
  by_cases hlt : i < xs.length
  · refine .inr ⟨⟨xs, xs[i], q, by simp [hlt]⟩, fun x H3 y => ?_⟩
    obtain ⟨e1, y⟩ := y
    subst e1
    refine mono _ _ _ _ _ (fun σ4 H4 q => monoT _ _ _ _ (fun b H5 q => ?_) q) (hs i x _ (y xs q) p)
    cases b with
    | true =>
      refine monoE _ _ _ _ (fun v H6 q => ?_) q
      obtain ⟨l, xs, y, a1, a2, a3, a4, a5⟩ := q
      exact ⟨l, xs, y, a1, a2, a3, a4, _, by omega, rfl, hlt, a5⟩
    | false => exact ⟨_, by omega, rfl, hlt, q⟩
  · have e : i = xs.length := by omega
    subst e
    exact .inl ⟨⟨xs, q, Nat.le_refl _⟩, hd H2 p⟩
section
variable {X : Cx} {K : PySem.W.Frag}
theorem call_isiK (h : X.K = K) : CallR X (.builtin "isinstance") (fun xs H Q => ∃ x n t b, xs = [x, .ty n] ∧ TyOf K H x t ∧ PySem.W.kitOne K t (.type n) = some b ∧ Q (.bl b) H) := h ▸ call_isi
end
end L2
/-! ### t[lo:hi] of a tuple, the whole of it too -/
namespace HT
open PySem PySem.Spec PyProof.Rows
section
variable {prog : Program} {w : World} {A : Around} {E : Value → Shared → Prop} {s : Shared}
theorem getItem_tuple_all {t sl : Addr} {items : Array Value} {vl vu : Value} {lo hi : Option Int} {Q : Value → Shared → Prop} (ht : IsTup s.heap t items) (hs : s.heap.IsSliceOf sl vl vu .none) (pl : IsPart vl lo) (pu : IsPart vu hi)
    (hw : sIx items.size 0 lo = 0 ∧ sIx items.size items.size hi = items.size) (h : Q (.ref t) s) : wpAny (model prog w) A (getItem (.ref t) (.ref sl)) Q E s := by
  obtain ⟨os, hos, hcs, hds⟩ := id hs
  have hTs : s.TypeIs (.ref sl) "slice" := ⟨os, hos, hcs⟩
  unfold getItem
  try with_reducible refine wpAny_holding ?_
  first | refine wpAny_bind (wpAny_pure ?_) | skip
  refine wpAny_bind (wpAny_sequenceKey ht.typeIs (by decide) ?_)
  refine wpAny_bind (wpAny_callSpecial?_slot (name := Str.ofString "__getitem__") ht.typeIs PyProof.Rows.slot_tuple_getitem
    (wpAny_call_entry PyProof.Rows.slot_tuple_getitem ht.typeIs entry_tuple_getitem ?_ (args_tuple_getitem _ _)))
  show wpAny _ _ (Builtin.Tuple.tupleItemsOf (.ref t) >>= _) _ _ s
  refine wpAny_bind (tupleItemsOf_ ht ?_)
  refine wpAny_bind (wpAny_typeOf hTs ?_)
  rw [if_pos (by decide)]
  refine wpAny_bind (sliceApplied_gen hs pl pu ?_)
  have hyes : (((sIx items.size 0 lo : Nat) : Int) == 0 && (1 : Int) == 1 && (sIx items.size items.size hi - sIx items.size 0 lo) == items.size) = true := by
    rw [hw.1, hw.2]
    simp
  show wpAny _ _ (if (((sIx items.size 0 lo : Nat) : Int) == 0 && (1 : Int) == 1 && (sIx items.size items.size hi - sIx items.size 0 lo) == items.size) = true then _ else _) _ _ s
  rw [if_pos hyes]
  unfold Builtin.Tuple.tupleIsExact
  refine wpAny_bind (wpAny_bind (wpAny_typeOf ht.typeIs (wpAny_pure ?_)))
  rw [if_pos (by decide)]
  refine wpAny_bind (wpAny_rule ?_)
  exact wpAny_pure ⟨_, rfl, wpAny_pure h⟩
end
end HT
namespace L2
open PySem PySem.Spec PyProof.Rows
section
variable {X : Cx}
/-- t[lo:hi], the whole of it being t itself -/
def rSlA (K : PySem.W.Frag) : V → Option Int → Option Int → Hp → VK → Prop := fun x lo hi H Q => ∃ a xs, x = .ref a ∧ SqT K H a xs ∧
  ((HT.sIx xs.length 0 lo = 0 ∧ HT.sIx xs.length xs.length hi = xs.length) → Q (.ref a) H) ∧ (¬ (HT.sIx xs.length 0 lo = 0 ∧ HT.sIx xs.length xs.length hi = xs.length) → ∀ p, H p = none → Q (.ref p) (upd H p (.tup (cutV xs lo hi))))
theorem sl_tupA : SlR X (rSlA X.K) := by
  intro pins s σ H x v vl vu lo hi sl Q I rx hs pl pu h
  obtain ⟨a, xs, rfl, hx, q1, q2⟩ := h
  by_cases hw : HT.sIx xs.length 0 lo = 0 ∧ HT.sIx xs.length xs.length hi = xs.length
  · cases rx
    obtain ⟨its, r, ht, hz⟩ := I.tuple hx
    have hlen : its.toArray.size = xs.length := by rw [List.size_toArray]; exact r.length.symm
    refine ⟨"tuple", _, PyProof.Rows.slot_tuple_getitem.lookup, ht.typeIs, ?_⟩
    exact HT.getItem_tuple_all ht hs pl pu (by rw [hlen]; exact hw) ⟨.ref a, H, I, rfl, q1 hw⟩
  · exact sl_tup pins s σ H _ v vl vu lo hi sl Q I rx hs pl pu ⟨a, xs, rfl, hx, hw, q2 hw⟩
end
end L2
/-! ### dicts keyed by tuples: a display of one pair, the walk over the keys, the sum of the values -/
namespace L2
open PySem PySem.Spec PyProof.Rows PySem.W
section
variable {prog : Program} {w : World} {A : Around} {E : Value → Shared → Prop} {s : Shared}
theorem dit_iter {d : Addr} {o : Obj} {es : Array DictEntry} {ep : Nat} {Q : Value → Shared → Prop} (hd : (d == sysModules) = false) (ho : s.heap.get? d = some o) (hc : o.ExactDict) (hdat : o.data = .dict es ep)
    (hQ : Q (.ref s.heap.objs.size) { s with heap := s.heap.push { cls := .type "dict_keyiterator", data := .fields #[.ref d, .int 0 0, .int es.size 0, .int ep 0] } }) :
    wpAny (model prog w) A (pyIter (.ref d)) Q E s := by
  have hT : s.TypeIs (.ref d) "dict" := ⟨o, ho, hc.1⟩
  refine wpAny_pyIter_slot hT PySem.F.slot_dict_iter (wpAny_call_entry PySem.F.slot_dict_iter hT PySem.F.entry_dict_iter ?_ (PySem.F.args_dict_iter_1 _)); unfold Builtin.«dict.__iter__»
  refine wpAny_bind ?_; unfold Builtin.Dict.dictSlotNone
  refine wpAny_bind (wpAny_notOrdered_dict hT ?_); show wpAny _ _ (pure (Value.ref d)) _ _ s
  refine wpAny_pure ?_; show wpAny _ _ (Builtin.Dict.showsAll d >>= _) _ _ s
  unfold Builtin.Dict.showsAll; rw [if_neg (by rw [hd]; exact Bool.false_ne_true)]
  refine wpAny_bind (wpAny_pure ?_); refine wpAny_bind (wpAny_dictEntries ho hdat ?_); refine wpAny_bind (wpAny_dictEpoch ho hdat ?_)
  refine wpAny_bind (wpAny_newObj_type (wpAny_pure ⟨_, rfl, "dict_keyiterator", _, ⟨_, Heap.get?_push_size _ rfl, rfl⟩, PySem.F.slot_dict_keyiterator_next.lookup, ?_⟩)); simpa [rawInt] using hQ
theorem dit_item {it d : Addr} {o : Obj} {es : Array DictEntry} {i ep : Nat} {e : DictEntry} {Q : Option Value → Shared → Prop} (hit : s.heap.IsKeyIter it d i es.size ep) (hod : s.heap.get? d = some o) (hdd : o.data = .dict es ep) (he : es[i]? = some e)
    (hQ : ∀ h', h'.IsKeyIter it d (i + 1) es.size ep → Heap.SameBut it s.heap h' → Q (some e.key) { s with heap := h' }) : wpAny (model prog w) A (pyNext (.ref it)) Q E s := by
  obtain ⟨oi, ho, hc, hd⟩ := id hit
  have hlt : i < es.size := (Array.getElem?_eq_some_iff.mp he).1
  unfold pyNext; refine wpAny_bind (wpAny_attempt (wpAny_callSpecial?_slot (name := Str.ofString "__next__") hit.typeIs PySem.F.slot_dict_keyiterator_next (wpAny_call_entry PySem.F.slot_dict_keyiterator_next hit.typeIs PySem.F.entry_dict_keyiterator_next ?_ (PySem.F.args_dict_keyiterator_next_1 _))))
  refine wpAny_bind (wpAny_pure ?_); refine wpAny_bind ?_; refine wpAny_bind ?_
  first | refine wpAny_bind (wpAny_typeNameOfWhole_keyiter hit.typeIs (wpAny_pure ?_)); skip | refine wpAny_bind (wpAny_typeNameOf_keyiter hit.typeIs (wpAny_pure ?_)); skip
  refine wpAny_bind (wpAny_fieldsOf ho hd ?_); have hown : Builtin.Dict_items.ownsTuple "dict_keyiterator" = false := by decide
  simp -iota only [hown, Bool.false_eq_true, if_false]; show wpAny _ _ (if (Value.ref d == Value.none) = true then _ else _) _ _ s
  rw [if_neg (show ¬ ((Value.ref d == Value.none) = true) from Bool.false_ne_true)]; refine wpAny_bind (wpAny_pure ?_)
  refine wpAny_bind (wpAny_dictEntries hod hdd ?_); rw [if_neg (by simp)]
  refine wpAny_bind (wpAny_pure ?_); refine wpAny_bind (wpAny_dictEpoch hod hdd ?_); rw [if_neg (by simp)]; refine wpAny_pure ?_
  simp only [show ¬ ((i : Int) < 0) from by omega, if_false, Int.toNat_natCast, he]; refine wpAny_bind ?_
  first | refine wpAny_bind (wpAny_typeNameOfWhole_keyiter hit.typeIs (wpAny_pure ?_)); skip | refine wpAny_bind (wpAny_typeNameOf_keyiter hit.typeIs (wpAny_pure ?_)); skip
  refine wpAny_bind (wpAny_isOneOf_keyiter hit.typeIs ?_); show wpAny _ _ (setField (.ref it) 1 (rawInt ((i : Int) + 1)) >>= _) _ _ s
  refine wpAny_bind (wpAny_setField ho hd (by simp) ?_)
  have st' : (s.heap.update it (Obj.mapFields (·.setIfInBounds 1 (rawInt ((i : Int) + 1))))).IsKeyIter it d (i + 1) es.size ep := ⟨_, Heap.get?_update_self _ ho (Obj.isFreed_of_fields (Obj.data_mapFields hd _)), (Obj.cls_mapFields ..).trans hc, by rw [Obj.data_mapFields hd]; simp [rawInt]⟩
  refine wpAny_bind (wpAny_holding ?_); refine wpAny_bind (wpAny_isOneOf_keyiter (s := { s with heap := s.heap.update it (Obj.mapFields (·.setIfInBounds 1 (rawInt ((i : Int) + 1)))) }) st'.typeIs ?_)
  show wpAny _ _ (pure e.key) _ _ _; exact wpAny_pure (wpAny_pure ⟨_, rfl, wpAny_pure (hQ _ st' (Heap.SameBut.update ..))⟩)
theorem dit_end {it d : Addr} {o : Obj} {es : Array DictEntry} {i ep : Nat} {Q : Option Value → Shared → Prop} (hh : A.handled = none) (hit : s.heap.IsKeyIter it d i es.size ep) (hod : s.heap.get? d = some o) (hdd : o.data = .dict es ep) (he : es.size ≤ i)
    (hQ : ∀ h', Heap.ExtBut it s.heap h' → Q none { s with heap := h' }) : wpAny (model prog w) A (pyNext (.ref it)) Q E s := by
  obtain ⟨oi, ho, hc, hd⟩ := id hit
  unfold pyNext; refine wpAny_bind (wpAny_attempt (wpAny_callSpecial?_slot (name := Str.ofString "__next__") hit.typeIs PySem.F.slot_dict_keyiterator_next (wpAny_call_entry PySem.F.slot_dict_keyiterator_next hit.typeIs PySem.F.entry_dict_keyiterator_next ?_ (PySem.F.args_dict_keyiterator_next_1 _))))
  refine wpAny_bind (wpAny_pure ?_); refine wpAny_bind ?_; refine wpAny_bind ?_
  first | refine wpAny_bind (wpAny_typeNameOfWhole_keyiter hit.typeIs (wpAny_pure ?_)); skip | refine wpAny_bind (wpAny_typeNameOf_keyiter hit.typeIs (wpAny_pure ?_)); skip
  refine wpAny_bind (wpAny_fieldsOf ho hd ?_); have hown : Builtin.Dict_items.ownsTuple "dict_keyiterator" = false := by decide
  simp -iota only [hown, Bool.false_eq_true, if_false]; show wpAny _ _ (if (Value.ref d == Value.none) = true then _ else _) _ _ s
  rw [if_neg (show ¬ ((Value.ref d == Value.none) = true) from Bool.false_ne_true)]; refine wpAny_bind (wpAny_pure ?_)
  refine wpAny_bind (wpAny_dictEntries hod hdd ?_); rw [if_neg (by simp)]
  refine wpAny_bind (wpAny_pure ?_); refine wpAny_bind (wpAny_dictEpoch hod hdd ?_); rw [if_neg (by simp)]; refine wpAny_pure ?_
  simp only [show ¬ ((i : Int) < 0) from by omega, if_false, Int.toNat_natCast, Array.getElem?_eq_none he]; refine wpAny_bind ?_
  first | refine wpAny_bind (wpAny_typeNameOfWhole_keyiter hit.typeIs (wpAny_pure ?_)); skip | refine wpAny_bind (wpAny_typeNameOf_keyiter hit.typeIs (wpAny_pure ?_)); skip
  show wpAny _ _ (setField (.ref it) 0 .none >>= _) _ _ s; refine wpAny_bind (wpAny_setField ho hd (by simp) ?_)
  show wpAny _ _ (newExc (.type "StopIteration") [] >>= _) _ _ _; refine wpAny_bind ?_; simp only [newExc, newTuple]
  refine wpAny_bind (wpAny_newObj_type ?_ (by size_fits)); refine wpAny_bind (m := firstArgMember _ _) (wpAny_of_eq (a := Value.none) (by first | rfl | (simp only [firstArgMember]; rfl)) ?_)
  refine wpAny_newObj_type ?_ (by size_fits); simp -iota only [raiseNew]; refine wpAny_bind (wpAny_handled ?_); rw [show A.in1.handled = none from hh]
  refine wpAny_bind (wpAny_pure (wpAny_throw ?_)); refine wpAny_bind (wpAny_isInstance (T := "StopIteration") (b := true) ⟨_, Heap.get?_push_size _ rfl, rfl⟩ isSubtype_stop ?_)
  exact wpAny_pure (hQ _ (((Heap.SameBut.update ..).extBut.push _).push _))
end
section
variable {prog : Program} {w : World} {A : Around} {E : Value → Shared → Prop} {s : Shared}
end
theorem paired_get {α β : Type} {R : α → β → Prop} : ∀ {xs : List α} {ys : List β} {i : Nat} {x : α}, Paired R xs ys → xs[i]? = some x → ∃ y, ys[i]? = some y ∧ R x y
  | _, _, i, x, .nil, h => by simp at h
  | _, _, 0, x, .cons r _, h => by simp at h; subst h; exact ⟨_, rfl, r⟩
  | _, _, i + 1, x, .cons _ t, h => by simp at h; obtain ⟨y, e, r⟩ := paired_get t h; exact ⟨y, by simpa using e, r⟩
section
variable {X : Cx} {tg : Expr}
end
end L2
/-! ### tuples cut and joined, told by contents; what keeps lists and tuples -/
namespace L2
open PySem PySem.Spec PyProof.Rows
section
variable {X : Cx}
theorem sl_tupN : SlR X (fun x lo hi H Q => ∃ xs xs', Is H (.t xs) x ∧ (∀ (H' : Hp) (vs : List V), Iss H' xs vs → Iss H' xs' (cutV vs lo hi)) ∧ (∀ vs : List V, vs.length = xs.length → (HT.sIx vs.length 0 lo = 0 ∧ HT.sIx vs.length vs.length hi = vs.length) → xs' = xs) ∧ ∀ v H2, Same H H2 → Is H2 (.t xs') v → Q v H2) := by
  intro pins s σ H x v vl vu lo hi sl Q I rx hs pl pu h
  obtain ⟨xs, xs', hx, hc, hw, q⟩ := h
  obtain ⟨a, vs, rfl, ha, ra⟩ := of_t hx
  refine sl_tupA pins s σ H (.ref a) v vl vu lo hi sl Q I rx hs pl pu ⟨a, vs, rfl, SqT.of ha, fun e => ?_, fun e p np => ?_⟩
  · have := hw vs ra.length e
    subst this
    exact q _ H (Same.refl H) hx
  · exact q _ _ (Same.new np) (is_t upd_same ((hc _ _ ra).mono (Same.new np)))
end
/-- the lists and the tuples stay -/
def LTS (H H' : Hp) : Prop := (∀ b xs, H b = some (.lst xs) → H' b = some (.lst xs)) ∧ ∀ b xs, H b = some (.tup xs) → H' b = some (.tup xs)
mutual
theorem Is.lts {H H' : Hp} (s : LTS H H') : ∀ {d : D} {v : V}, Is H d v → Is H' d v
  | .i _, _, h => by rw [of_i h]; exact is_i
  | .l xs, _, h => by
    obtain ⟨a, vs, e, q, r⟩ := of_l h
    rw [e]
    exact is_l (s.1 _ _ q) (Iss.lts s r)
  | .t xs, _, h => by
    obtain ⟨a, vs, e, q, r⟩ := of_t h
    rw [e]
    exact is_t (s.2 _ _ q) (Iss.lts s r)
theorem Iss.lts {H H' : Hp} (s : LTS H H') : ∀ {xs : List D} {vs : List V}, Iss H xs vs → Iss H' xs vs
  | [], _, h => by rw [of_nil h]; exact iss_nil
  | x :: xs, _, h => by
    obtain ⟨u, us, e, q, r⟩ := of_cons h
    rw [e]
    exact iss_cons (Is.lts s q) (Iss.lts s r)
end
end L2
/-! ### try: .. except C as n: .. with the names kept -/
namespace L2
open PySem PySem.Spec PyProof.Rows PySem.W
section
variable {X : Cx} {pins : List (Addr × Obj)} {σ : St} {H : Hp} {s : Shared}
end
section
variable {X : Cx} {k : Nat} {f : Addr} {fd : FuncData} {ps : List Str} {sp : Sp} {dvs : List V} {ds : List Value} {x : Str} {p pos pos' : Pos} {e : Expr} {es : List Expr} {t : TA}
end
end L2
/-! ### the walk over the keys of a dict keyed by ints and texts -/
namespace L2
open PySem PySem.Spec PyProof.Rows PySem.W
theorem rel_of_key {k : Key} {v : Value} (h : keyIs k v = true) : RelV (kV k) v := by
  rcases keyIs_shape h with ⟨i, t, rfl, rfl⟩ | ⟨x, t, rfl, rfl⟩
  · exact ⟨t, rfl⟩
  · exact ⟨t, rfl⟩
theorem pairs_len {P : Program} {w : World} : ∀ {es : List DictEntry} {vs : List (Key × Value)}, Pairs (mixKind P w) es vs → es.length = vs.length
  | _, _, .nil => rfl
  | _, _, .cons _ _ t => by rw [List.length_cons, List.length_cons, pairs_len t]
theorem pairs_get {P : Program} {w : World} : ∀ {es : List DictEntry} {vs : List (Key × Value)} {i : Nat} {x : Key × Value}, Pairs (mixKind P w) es vs → vs[i]? = some x → ∃ e, es[i]? = some e ∧ keyIs x.1 e.key = true
  | _, _, i, x, .nil, h => by simp at h
  | _, _, 0, x, .cons k _ _, h => by simp at h; subst h; exact ⟨_, rfl, k⟩
  | _, _, i + 1, x, .cons _ _ t, h => by simp at h; obtain ⟨e, q, r⟩ := pairs_get t h; exact ⟨e, by simpa using q, r⟩
/-- the keys of the dict at d, which stays as it is -/
def Iti (d : Addr) (o : Obj) (kvs : List (Key × V)) : It :=
  ⟨fun i H => H d = some (.frz o (.dK kvs)) ∧ i < kvs.length, fun i H x H' => H' = H ∧ ∃ k v, x = kV k ∧ kvs[i]? = some (k, v), fun i H => H d = some (.frz o (.dK kvs)) ∧ kvs.length ≤ i⟩
def iDictI (td : TE) : TI := fun σ H R => td σ H fun x H1 => ∃ (d : Addr) (kvs : List (Key × V)), x = .ref d ∧ Rd H1 d (.dK kvs) ∧ ∀ (o : Obj) (H2 : Hp), H2 d = some (.frz o (.dK kvs)) → (∀ b, b ≠ d → H2 b = H1 b) → R (Iti d o kvs) H2
theorem turn_dictI {P : Program} {w : World} {K : PySem.W.Frag} {tg : Expr} (d it : Addr) (o : Obj) (kvs : List (Key × V)) (ep : Nat) (hep : ∀ es' ep', o.data = .dict es' ep' → ep' = ep) : Turn P w K tg (Iti d o kvs) [it] it (fun i h => h.IsKeyIter it d i kvs.length ep) where
  mem := by simp
  obj := fun i h st b hb => by
    have e : b = it := by simpa using hb
    subst e; obtain ⟨o, e, c, d⟩ := st; exact ⟨o, e, fun v z => by rw [d] at z; cases z⟩
  keep := fun i h h' st k => st.at fun o e => k it (by simp) o e
  item := by
    intro X hP hw hK hc i pins s σ H E I hf st hg
    subst hP hw hK
    obtain ⟨hq, hi⟩ := hg
    obtain ⟨ho, z, y, vs, rel, o', es, ep', h1, h2, h3, hk, h4, h5⟩ := (show ObjOk X.prog X.w H s.heap d (.frz o (.dK kvs)) from I.hok d _ hq)
    obtain rfl : o = o' := Option.some.inj (ho.symm.trans h1)
    obtain rfl : ep' = ep := hep _ _ h3
    have hx : kvs[i]? = some kvs[i] := List.getElem?_eq_getElem hi
    obtain ⟨q, hq1, e1, e2⟩ := paired_get rel hx
    obtain ⟨en, he', hkey⟩ := pairs_get h4 hq1
    have hsz : es.size = kvs.length := by rw [← Array.length_toList, pairs_len h4, ← Paired.length rel]
    have he : es[i]? = some en := by rw [← Array.getElem?_toList]; exact he'
    obtain ⟨f0, f1, f2, f3, f4, f5⟩ := hf it (by simp)
    rw [← hsz] at st
    refine dit_item st ho h3 he fun h' st' sb => ?_
    have I1 : Inv X pins σ H { s with heap := h' } := I.turned (t' := s.toks) (fun b o hb e => (sb.2 b hb).trans e) f0 f1 f3 f4 f5
    obtain ⟨oo, e, c, d'⟩ := id st'
    rw [hsz] at st'
    rw [← e1] at hkey
    exact ⟨_, rfl, go_of (s := { s with heap := h' }) e c d' (by decide) ⟨kV kvs[i].1, H, I1, rel_of_key hkey, ⟨rfl, kvs[i].1, kvs[i].2, rfl, hx⟩, st', fun b hb => (hf b hb).1⟩⟩
  done := by
    intro X hP hw hK hc i pins s σ H E I hf st hg
    subst hP hw hK
    obtain ⟨hq, hi⟩ := hg
    obtain ⟨ho, z, y, vs, rel, o', es, ep', h1, h2, h3, hk, h4, h5⟩ := (show ObjOk X.prog X.w H s.heap d (.frz o (.dK kvs)) from I.hok d _ hq)
    obtain rfl : o = o' := Option.some.inj (ho.symm.trans h1)
    obtain rfl : ep' = ep := hep _ _ h3
    have hsz : es.size = kvs.length := by rw [← Array.length_toList, pairs_len h4, ← Paired.length rel]
    obtain ⟨f0, f1, f2, f3, f4, f5⟩ := hf it (by simp)
    rw [← hsz] at st
    exact dit_end (I.ok.hd hc) st ho h3 (by omega) fun h' eb => ⟨rfl, I.turned (t' := s.toks) (fun b o hb e => eb b o hb e) f0 f1 f3 f4 f5⟩
  self := fun _ _ _ _ _ st h => wpAny_pyIter_keyiter st h
section
variable {X : Cx} {tg : Expr}
theorem pi_dictI {l : Expr} {tl : TE} (hl : PE X l tl) : PI X tg l (iDictI tl) := by
  intro pins s σ H R I h
  refine thn (hl pins s σ H _ I h) fun v s1 ⟨x, H1, I1, r1, q1⟩ => ?_
  obtain ⟨d, kvs, rfl, hq, q⟩ := q1
  cases r1
  have hob : ObjOk X.prog X.w H1 s1.heap d (.dK kvs) := rd_of I1.hok hq
  obtain ⟨z, y, vs, rel, o, es, ep, h1, h2, h3, hk, h4, h5⟩ := id hob
  have hsz : es.size = kvs.length := by rw [← Array.length_toList, pairs_len h4, ← Paired.length rel]
  obtain ⟨H2, I2, e2, k2⟩ : ∃ H2, Inv X pins σ H2 s1 ∧ H2 d = some (.frz o (.dK kvs)) ∧ ∀ b, b ≠ d → H2 b = H1 b := by
    rcases hq with hq | ⟨o', hq⟩
    · exact ⟨_, d_write (t' := s1.toks) I1 (by rw [hq]; exact True.intro) (Heap.SameBut.refl _ _) ⟨o, h1⟩ (show ObjOk X.prog X.w (upd H1 d (.frz o (.dK kvs))) s1.heap d (.frz o (.dK kvs)) from ⟨h1, hob⟩), upd_same, fun b hb => upd_ne hb⟩
    · obtain ⟨ho', _⟩ := (show ObjOk X.prog X.w H1 s1.heap d (.frz o' (.dK kvs)) from I1.hok d _ hq)
      obtain rfl : o' = o := Option.some.inj (ho'.symm.trans h1)
      exact ⟨H1, I1, hq, fun _ _ => rfl⟩
  refine dit_iter y h1 h2 h3 ?_
  rw [hsz]
  refine ⟨s1.heap.objs.size, [s1.heap.objs.size], _, _, _, rfl, I2.kept (t' := s1.toks) fun b o e => Heap.get?_push_of_some _ e, turn_dictI d _ o kvs ep (fun es' ep' e => by rw [h3] at e; cases e; rfl), ⟨_, Heap.get?_push_size _ rfl, rfl, rfl⟩, fun b hb => ?_, q o H2 e2 k2⟩
  have e : b = s1.heap.objs.size := by simpa using hb
  subst e
  exact I2.fpOk (Nat.le_refl _) (I2.hok.fresh (Nat.le_refl _))
/-- a loop over the keys of a dict -/
theorem for_dictI {d : Addr} {o : Obj} {kvs : List (Key × V)} {g : TG} {tb : TS} {D : Ends} {σ : St} {H : Hp} (Pv : Nat → St → Hp → Prop) (h0 : Pv 0 σ H) (hl : ∀ i σ H, i ≤ kvs.length → Pv i σ H → H d = some (.frz o (.dK kvs)))
    (hs : ∀ i k v σ H, kvs[i]? = some (k, v) → Pv i σ H → g (kV k) σ H fun σ2 H2 => tb { D with nx := Pv (i + 1), ct := Pv (i + 1), bk := D.nx } σ2 H2) (hd : ∀ σ H, Pv kvs.length σ H → D.nx σ H) :
    ∃ W : Nat → Nat → St → Hp → Prop, (∃ m, W 0 m σ H) ∧ ∀ i m σ H, W i m σ H →
      ((Iti d o kvs).stop i H ∧ D.nx σ H) ∨ ((Iti d o kvs).go i H ∧ ∃ N : St → Hp → Prop, (∀ σ' H', N σ' H' → ∃ m', m' < m ∧ W (i + 1) m' σ' H') ∧ ∀ x H', (Iti d o kvs).yld i H x H' → g x σ H' fun σ2 H2 => tb { D with nx := N, ct := N, bk := D.nx } σ2 H2) := by
  refine ⟨fun i m σ H => m = kvs.length - i ∧ i ≤ kvs.length ∧ Pv i σ H, ⟨kvs.length, by simp, Nat.zero_le _, h0⟩, ?_⟩
  rintro i m σ H ⟨rfl, hi, p⟩
  have q := hl i σ H hi p
  by_cases hlt : i < kvs.length
  · refine .inr ⟨⟨q, hlt⟩, Pv (i + 1), fun σ' H' p' => ⟨kvs.length - (i + 1), by omega, rfl, hlt, p'⟩, ?_⟩
    rintro x H' ⟨rfl, k, v, rfl, e⟩
    exact hs i k v σ _ e p
  · obtain rfl : i = kvs.length := by omega
    exact .inl ⟨⟨q, Nat.le_refl _⟩, hd σ H p⟩
/-- dict(d), a copy -/
def rDictOf : List V → Hp → VK → Prop := fun vs H Q => ∃ (a : Addr) (kvs : List (Key × V)), vs = [.ref a] ∧ Rd H a (.dK kvs) ∧ ∀ p, H p = none → Q (.ref p) (upd H p (.dK kvs))
theorem call_dict_of : CallR X (.type "dict") rDictOf := by
  intro pins s σ H xs us Q I r ⟨a, kvs, ex, ha, q⟩
  subst ex
  cases r with
  | cons r1 r2 =>
    cases r2
    cases r1
    exact d_copyOf I ha fun p s' np I' => ⟨.ref p, _, I', rfl, q p np⟩
end
end L2
/-! ### tuples of tuples as keys of a dict -/
namespace L2
open PySem PySem.Spec PyProof.Rows PySem.W
section
variable {prog : Program} {w : World} {K : Type} [DecidableEq K] {knd : KeyKind prog w K}
variable {A : Around} {E : Value → Shared → Prop} {s : Shared}
end
end L2
/-! ### dicts keyed by tuples of tuples of ints: known to the heap by .ext -/
namespace L2
open PySem PySem.Spec PyProof.Rows PySem.W
section
variable {P : Program} {w : World} {H : Hp} {h : Heap} {a : Addr}
end
section
variable {X : Cx} {pins : List (Addr × Obj)} {σ : St} {H : Hp} {s : Shared} {a b : Addr} {v : V} {r : Value} {A : Around} {E : Value → Shared → Prop} {kvs : List (List (List Int) × V)} {ks : List (List Int)}
end
section
variable {X : Cx} {o i e f value ek ev : Expr} {pos pos' apos cpos : Pos} {td ty tv tx tk : TE}
end
end L2
/-! ### len(d) and list(d) of a dict keyed by tuples of tuples -/
namespace L2
open PySem PySem.Spec PyProof.Rows PySem.W
section
variable {prog : Program} {w : World} {A : Around} {E : Value → Shared → Prop} {s : Shared}
theorem walk_keys (hh : A.handled = none) (I d : Addr) (hne : d ≠ I) {o : Obj} {es : Array DictEntry} {ep : Nat} (hdat : o.data = .dict es ep) :
    Walks prog w A I [I, d] [I] es.size (fun i v => ∃ e, es[i]? = some e ∧ v = e.key) (fun i h => h.IsKeyIter I d i es.size ep ∧ h.get? d = some o) where
  sub := fun b hb => by simp at hb; simp [hb]
  frame := fun _ _ _ st hk => ⟨st.1.at fun o e => hk I (by simp) o e, hk d (by simp) _ st.2⟩
  item := fun i s Q E hi st hQ => dit_item st.1 st.2 hdat (Array.getElem?_eq_getElem hi) fun h' hit' hs' => hQ _ h' s.toks ⟨_, Array.getElem?_eq_getElem hi, rfl⟩ ⟨hit', hs'.extBut d _ hne st.2⟩ fun b o hb e => hs'.extBut b o (fun h => hb (by simp [h])) e
  done := fun s Q E st hQ => dit_end hh st.1 st.2 hdat (Nat.le_refl _) fun h' he' => hQ h' s.toks fun b o hb e => he' b o (fun h => hb (by simp [h])) e
  self := fun _ _ _ _ st hQ => wpAny_pyIter_keyiter st.1 hQ
theorem hint_dict {d : Addr} {Q : Bool → Shared → Prop} (hT : s.TypeIs (.ref d) "dict") (h : Q false s) :
    wpAny (model prog w) A (Builtin.List.listLengthHint (.ref d)) Q E s := by
  unfold Builtin.List.listLengthHint
  refine wpAny_bind (wpAny_specialOf hT PySem.F.slot_dict_len.lookup ?_)
  wp_delta
  refine wpAny_bind (wpAny_isInstance (b := true) hT (by rw [isSubtype_type]; kernel_rfl) ?_)
  show wpAny _ A (typeOf (.ref d) >>= _) _ _ _
  refine wpAny_bind (wpAny_typeOf hT ?_)
  exact wpAny_pure h
theorem extend_dict {R : Result → Shared → Prop} {d : Addr} {o : Obj} {es : Array DictEntry} {ep : Nat} (hh : A.handled = none) (hd : (d == sysModules) = false) (ho : s.heap.get? d = some o) (hc : o.ExactDict) (hdat : o.data = .dict es ep) (hlen : es.size ≤ 2 ^ 24)
    (S : Addr) (res : Value) (c₀ : Nat) (hS : s.heap.get? S = some { cls := .type "list", data := .seq #[] c₀ })
    (hR : ∀ h' tk acc' c', (∀ b o, b ≠ S → s.heap.get? b = some o → h'.get? b = some o) → h'.get? S = some { cls := .type "list", dict := none, data := .seq acc' c', slots := #[] } →
      ItemsOf (fun i v => ∃ e, es[i]? = some e ∧ v = e.key) acc' es.size → R (.ok (.ret res)) { s with heap := h', toks := tk }) :
    wpAny (model prog w) A.in1 (Builtin.List.listExtendWith (.ref S) (.ref d) res)
      (fun fin s' => match fin with | .done f => R (.ok f) s' | .again c' => c'.quiet = true ∧ codeAny (model prog w) A c' R s') (fun e s' => R (.error e) s') s := by
  have hSd : S ≠ d := fun e => by rw [e, ho] at hS; have := Option.some.inj hS; rw [this] at hdat; cases hdat
  have hSlt : S < s.heap.objs.size := Heap.lt_size hS
  have hdlt : d < s.heap.objs.size := Heap.lt_size ho
  have hSI : S ≠ s.heap.objs.size := Nat.ne_of_lt hSlt
  have hSf : S ∉ [s.heap.objs.size, d] := fun hm => by
    rcases List.mem_cons.mp hm with e | hm
    · exact hSI e
    · exact hSd (List.mem_singleton.mp hm)
  have W := (walk_keys (prog := prog) (w := w) (A := A.in1) hh s.heap.objs.size d (Nat.ne_of_lt hdlt) hdat).toS
  have key : ∀ (h : Heap) (c₁ tk : Nat), h.IsKeyIter s.heap.objs.size d 0 es.size ep ∧ h.get? d = some o → (∀ b o, b ≠ S → s.heap.get? b = some o → h.get? b = some o) →
      h.get? S = some { cls := .type "list", data := .seq #[] c₁ } → codeAny (model prog w) A (.builtin "list.extend.loop" ⟨[.ref S, .ref s.heap.objs.size, res], []⟩) R { s with heap := h, toks := tk } := by
    intro h c₁ tk hit hk hS₁
    refine codeAny_extend_loopS W (by rw [sizeLine_eq]; omega) S hSf res es.size 0 _ #[] c₁ rfl (Nat.zero_le _) hit hS₁ (ItemsOf.nil _) fun s' acc' c' hm hS' hacc => ?_
    rw [Moved.eq_with hm]
    refine hR s'.heap s'.toks acc' c' (fun b o hb e => hm.heap b o (fun hmem => ?_) (hk b o hb e)) hS' hacc
    rcases List.mem_cons.mp hmem with e' | hmem
    · exact hb e'
    · exact absurd (Heap.lt_size e) (by rw [List.mem_singleton.mp hmem]; exact Nat.lt_irrefl _)
  unfold Builtin.List.listExtendWith
  refine wpAny_bind (wpAny_typeOf (T := "dict") ⟨o, ho, hc.1⟩ ?_)
  have h1 : Builtin.List.listSameRef (.ref S) (.ref d) = false := by simp [Builtin.List.listSameRef, hSd]
  have h2 : (Value.type "dict" == Value.type "list") = false := by decide
  have h3 : (Value.type "dict" == Value.type "tuple") = false := by decide
  simp only [h1, h2, h3, Bool.or_false, Bool.false_eq_true, if_false]
  refine wpAny_bind (dit_iter hd ho hc hdat ?_)
  refine wpAny_bind (wpAny_holding (hint_dict ⟨o, Heap.get?_push_of_some _ ho, hc.1⟩ ?_))
  have hit₁ : (s.heap.push { cls := .type "dict_keyiterator", data := .fields #[.ref d, .int 0 0, .int es.size 0, .int ep 0] }).IsKeyIter s.heap.objs.size d 0 es.size ep := ⟨_, Heap.get?_push_size _ rfl, rfl, rfl⟩
  have hS₁ := Heap.get?_push_of_some { cls := .type "dict_keyiterator", data := .fields #[.ref d, .int 0 0, .int es.size 0, .int ep 0] } hS
  have ho₁ := Heap.get?_push_of_some { cls := .type "dict_keyiterator", data := .fields #[.ref d, .int 0 0, .int es.size 0, .int ep 0] } ho
  rw [if_pos (by decide)]
  refine wpAny_bind (wpAny_rule ?_)
  refine wpAny_bind ?_
  show wpAny _ _ (updateSeq S (·.push .none) >>= fun _ => updateSeq S (·.pop)) _ _ _
  refine wpAny_bind (wpAny_updateSeq hS₁ rfl ?_)
  have hS₂ := Heap.get?_update_self (Obj.mapSeq (·.push Value.none)) hS₁ rfl
  refine wpAny_updateSeq (hz := by seq_fits) hS₂ rfl ?_
  have hS₃ := Heap.get?_update_self (Obj.mapSeq (·.pop)) hS₂ rfl
  refine wpAny_pure ⟨plainId_quiet F.plain_extend_loop _, key _ _ _ ⟨?_, ?_⟩ (fun b o hb e => ?_) hS₃⟩
  · exact hit₁.at fun o e => (Heap.get?_update_other _ _ hSI).trans ((Heap.get?_update_other _ _ hSI).trans e)
  · exact (Heap.get?_update_other _ _ hSd).trans ((Heap.get?_update_other _ _ hSd).trans ho₁)
  · exact (Heap.get?_update_other _ _ (Ne.symm hb)).trans ((Heap.get?_update_other _ _ (Ne.symm hb)).trans (Heap.get?_push_of_some _ e))
theorem list_init_dict {R : Result → Shared → Prop} {d : Addr} {o : Obj} {es : Array DictEntry} {ep : Nat} (hh : A.handled = none) (hd : (d == sysModules) = false) (ho : s.heap.get? d = some o) (hc : o.ExactDict) (hdat : o.data = .dict es ep) (hlen : es.size ≤ 2 ^ 24)
    (S : Addr) (hS : s.heap.get? S = some { cls := .type "list", data := .seq #[] })
    (hR : ∀ h' tk acc' c', (∀ b o, b ≠ S → s.heap.get? b = some o → h'.get? b = some o) → h'.get? S = some { cls := .type "list", dict := none, data := .seq acc' c', slots := #[] } →
      ItemsOf (fun i v => ∃ e, es[i]? = some e ∧ v = e.key) acc' es.size → R (.ok (.ret .none)) { s with heap := h', toks := tk }) :
    wpAny (model prog w) A.in1 (Builtin.«list.__init__» ⟨[.ref S, .ref d], []⟩)
      (fun fin s' => match fin with | .done f => R (.ok f) s' | .again c' => c'.quiet = true ∧ codeAny (model prog w) A c' R s') (fun e s' => R (.error e) s') s := by
  have hSd : S ≠ d := fun e => by rw [e, ho] at hS; have := Option.some.inj hS; rw [this] at hdat; cases hdat
  show wpAny _ _ (do let old ← Builtin.List.listItems (.ref S); Builtin.List.listUpdate (.ref S) (fun _ => #[]); letGo old.toList.reverse; Builtin.List.listExtendWith (.ref S) (.ref d) .none) _ _ s
  refine wpAny_bind ?_
  unfold Builtin.List.listItems
  refine wpAny_bind (wpAny_seqItems hS rfl (wpAny_pure ?_))
  show wpAny _ _ (updateSeq S (fun _ => #[]) >>= fun _ => letGo (#[] : Array Value).toList.reverse >>= fun _ => Builtin.List.listExtendWith (.ref S) (.ref d) .none) _ _ s
  refine wpAny_bind (wpAny_updateSeq hS rfl ?_)
  have hS₂ := Heap.get?_update_self (Obj.mapSeq (fun _ => (#[] : Array Value))) hS rfl
  have oth : ∀ b o, b ≠ S → s.heap.get? b = some o → (s.heap.update S (Obj.mapSeq (fun _ => (#[] : Array Value)))).get? b = some o :=
    fun b o hb e => (Heap.get?_update_other _ _ (Ne.symm hb)).trans e
  refine wpAny_bind (wpAny_letGo ?_)
  refine extend_dict hh hd (oth d _ (Ne.symm hSd) ho) hc hdat hlen S .none _ hS₂ fun h' tk acc' c' hk hS' hacc => ?_
  exact hR h' tk acc' c' (fun b o hb e => hk b o hb (oth b o hb e)) hS' hacc
theorem call_list_raw {Q : Value → Shared → Prop} {d : Addr} {o : Obj} {es : Array DictEntry} {ep : Nat} (hh : A.handled = none) (hd : (d == sysModules) = false) (ho : s.heap.get? d = some o) (hc : o.ExactDict) (hdat : o.data = .dict es ep) (hlen : es.size ≤ 2 ^ 24)
    (hQ : ∀ h' tk acc' c', (∀ b o, s.heap.get? b = some o → h'.get? b = some o) →
      h'.get? s.heap.objs.size = some { cls := .type "list", dict := none, data := .seq acc' c', slots := #[] } → ItemsOf (fun i v => ∃ e, es[i]? = some e ∧ v = e.key) acc' es.size → Q (.ref s.heap.objs.size) { s with heap := h', toks := tk }) :
    wpAny (model prog w) A (call (.type "list") [.ref d]) Q E s := by
  refine callType_codes (Q₁ := fun obj s₁ => obj = .ref s.heap.objs.size ∧ s₁ = { s with heap := s.heap.push { cls := .type "list", data := .seq #[] } }) F.called_list (F.typeCall_list_1 _) F.entry_list_init
    (code_list_new _ ⟨rfl, rfl⟩) fun obj s₁ h₁ => ?_
  obtain ⟨rfl, rfl⟩ := h₁
  have hS : (s.heap.push { cls := .type "list", data := .seq #[] }).get? s.heap.objs.size = some { cls := .type "list", data := .seq #[] } := Heap.get?_push_size _ rfl
  refine ⟨⟨_, hS, rfl⟩, F.args_list_init_2 _ _, list_init_dict (A := A.in1) hh hd (Heap.get?_push_of_some _ ho) hc hdat hlen _ hS fun h' tk acc' c' hk hS' hacc => ?_⟩
  exact ⟨rfl, hQ h' tk acc' c' (fun b o e => hk b o (Nat.ne_of_lt (Heap.lt_size e)) (Heap.get?_push_of_some _ e)) hS' hacc⟩
end
section
variable {X : Cx}
end
end L2
/-! ### list(d) of a dict keyed by flat tuples of ints -/
namespace L2
open PySem PySem.Spec PyProof.Rows PySem.W
section
variable {X : Cx}
theorem keys_ints (ks : List Int) : (ks.map Sum.inl : List Key).map kV = ks.map V.int := by
  rw [List.map_map]
  exact List.map_congr_left fun _ _ => rfl
theorem call_listT (hc : X.calm = true) : CallR X (.type "list") (fun vs H Q => ∃ (a : Addr) (kvs : List (List Key × V)) (xs : List (List Int)), vs = [V.ref a] ∧ Rd H a (.dT kvs) ∧ kvs.map (·.1) = xs.map (fun x => (x.map Sum.inl : List Key)) ∧ kvs.length ≤ 2 ^ 24 ∧ ∀ l H', H l = none → Same H H' → Is H' (.l (xs.map tI)) (.ref l) → Q (.ref l) H') := by
  intro pins s σ H xs us Q I r ⟨a, kvs, kk, ex, d, hk1, hl, q⟩
  subst ex
  obtain ⟨u, rfl, r1⟩ : ∃ u, us = [u] ∧ RelV (.ref a) u := by cases r with | cons h t => cases t; exact ⟨_, rfl, h⟩
  cases r1
  obtain ⟨z, hd, xs, rel, o, es, ep, h1, h2, h3, h4, h5, _⟩ := dt_rd I.hok d
  have hsz : es.size = kvs.length := by rw [← Array.length_toList, h4, List.length_map, ← Paired.length rel]
  refine call_list_raw (I.ok.hd hc) hd h1 h2 h3 (by omega) fun h' tk acc' c' hk hS hacc => ?_
  have hn := I.hok.fresh (Nat.le_refl s.heap.objs.size)
  have vals : ∃ vs, Vals vs acc'.toList ∧ Iss H (kk.map tI) vs := by
    obtain ⟨a1, a2⟩ := hacc
    have go : ∀ {l : List (List Key × V)} {m : List (List Key × Addr × Value)}, KT H l m → ∀ kk : List (List Int), l.map (·.1) = kk.map (fun x => (x.map Sum.inl : List Key)) → Vals (m.map fun q => V.ref q.2.1) (m.map fun q => Value.ref q.2.1) ∧ Iss H (kk.map tI) (m.map fun q => V.ref q.2.1) := by
      intro l m t
      induction t with
      | nil =>
        intro kk hk
        cases kk with
        | nil => exact ⟨.nil, iss_nil⟩
        | cons x r => cases hk
      | @cons p q ps qs h _ ih =>
        intro kk hk
        cases kk with
        | nil => cases hk
        | cons x r =>
          rw [List.map_cons, List.map_cons] at hk
          injection hk with e1 e2
          obtain ⟨i1, i2⟩ := ih r e2
          refine ⟨.cons rfl i1, iss_cons (is_tI ?_) i2⟩
          have := h.2.1
          rw [e1, keys_ints] at this
          exact this
    have e : acc'.toList = xs.map fun q => Value.ref q.2.1 := by
      refine List.ext_getElem? fun i => ?_
      rw [List.getElem?_map]
      by_cases hi : i < xs.length
      · have hi' : i < acc'.toList.length := by rw [Array.length_toList, a1, hsz, Paired.length rel]; exact hi
        obtain ⟨en, e1, e2⟩ := a2 i _ (by rw [← Array.getElem?_toList]; exact List.getElem?_eq_getElem hi')
        rw [List.getElem?_eq_getElem hi', e2]
        rw [← Array.getElem?_toList, h4, List.getElem?_map, List.getElem?_eq_getElem hi] at e1
        have e1 := Option.some.inj e1
        rw [← e1, List.getElem?_eq_getElem hi]
        rfl
      · have hi' : ¬ i < acc'.toList.length := by rw [Array.length_toList, a1, hsz, Paired.length rel]; exact hi
        rw [List.getElem?_eq_none (by omega), List.getElem?_eq_none (by omega)]
        rfl
    rw [e]
    exact ⟨_, go rel kk hk1⟩
  obtain ⟨vs, v1, v2⟩ := vals
  have ln : vs.length = kvs.length := by
    rw [v2.length, List.length_map]
    have := congrArg List.length hk1
    rw [List.length_map, List.length_map] at this
    exact this.symm
  refine ⟨.ref s.heap.objs.size, _, I.laid (t' := tk) hk (Nat.le_refl _) (show ObjOk X.prog X.w _ h' _ (.lst vs) from ⟨by omega, acc'.toList, c', v1, hS⟩), rfl, q _ _ hn (Same.new hn) (is_l upd_same (v2.mono (Same.new hn)))⟩
end
end L2
local macro_rules | `(tactic| ac_rfl) => `(tactic| (intro _ _ _ _ h; repeat (first | (cases h; subst_vars; rfl) | (obtain ⟨e, _⟩ := h; subst e; rfl) | (obtain ⟨_, h⟩ := h))))
namespace Mine
open PySem L2 PyProof.Rows
def top (i : Nat) : Stmt := PySem.Challenge.pw_floorcurves_k52_counts_by_own_sums.main.body.getD i (.Pass ⟨0, 0, 0, 0⟩)
abbrev s_is_whole : Stmt := top 8
theorem sc_is_whole : FnScope ["thing"] ["thing"] (defScope s_is_whole) := ⟨rfl, rfl, rfl, by decide +kernel, rfl, by decide +kernel, by decide +kernel⟩
abbrev s_need_between : Stmt := top 9
theorem sc_need_between : FnScope ["thing", "least", "greatest"] ["thing", "least", "greatest"] (defScope s_need_between) := ⟨rfl, rfl, rfl, by decide +kernel, rfl, by decide +kernel, by decide +kernel⟩
abbrev s_choose : Stmt := top 11
theorem sc_choose : FnScope ["number", "chosen", "found", "place"] ["number", "chosen"] (defScope s_choose) := ⟨rfl, rfl, rfl, by decide +kernel, rfl, by decide +kernel, by decide +kernel⟩
abbrev s_by_degree : Stmt := top 13
theorem sc_by_degree : FnScope ["table", "greatest", "found", "d", "s", "number"] ["table", "greatest"] (defScope s_by_degree) := ⟨rfl, rfl, rfl, by decide +kernel, rfl, by decide +kernel, by decide +kernel⟩
abbrev s_as_table : Stmt := top 14
theorem sc_as_table : FnScope ["numbers", "found", "d", "s"] ["numbers"] (defScope s_as_table) := ⟨rfl, rfl, rfl, by decide +kernel, rfl, by decide +kernel, by decide +kernel⟩
abbrev s_add_products : Stmt := top 15
theorem sc_add_products : FnScope ["total", "wholes", "counts", "sign", "r", "rest", "s", "product"] ["total", "wholes", "counts", "sign"] (defScope s_add_products) := ⟨rfl, rfl, rfl, by decide +kernel, rfl, by decide +kernel, by decide +kernel⟩
abbrev s_wholes_by_degree : Stmt := top 16
theorem sc_wholes_by_degree : FnScope ["counts", "wholes", "d", "e"] ["counts"] (defScope s_wholes_by_degree) := ⟨rfl, rfl, rfl, by decide +kernel, rfl, by decide +kernel, by decide +kernel⟩
abbrev s_counts_by_degree : Stmt := top 17
theorem sc_counts_by_degree : FnScope ["wholes", "counts", "d", "e"] ["wholes"] (defScope s_counts_by_degree) := ⟨rfl, rfl, rfl, by decide +kernel, rfl, by decide +kernel, by decide +kernel⟩
abbrev s_wholes_of : Stmt := top 18
theorem sc_wholes_of : FnScope ["table", "greatest"] ["table"] (defScope s_wholes_of) := ⟨rfl, rfl, rfl, by decide +kernel, rfl, by decide +kernel, by decide +kernel⟩
abbrev s_counts_of : Stmt := top 19
theorem sc_counts_of : FnScope ["table", "greatest"] ["table", "greatest"] (defScope s_counts_of) := ⟨rfl, rfl, rfl, by decide +kernel, rfl, by decide +kernel, by decide +kernel⟩
abbrev s__law_cell_at : Stmt := top 21
theorem sc__law_cell_at : FnScope ["_law_script", "_law_k"] ["_law_script", "_law_k"] (defScope s__law_cell_at) := ⟨rfl, rfl, rfl, by decide +kernel, rfl, by decide +kernel, by decide +kernel⟩
abbrev s__law_great : Stmt := top 22
theorem sc__law_great : FnScope ["_law_cell", "_law_x", "_law_found", "_law_k"] ["_law_cell"] (defScope s__law_great) := ⟨rfl, rfl, rfl, by decide +kernel, rfl, by decide +kernel, by decide +kernel⟩
abbrev s__law_digit : Stmt := top 23
theorem sc__law_digit : FnScope ["_law_rest", "_law_m", "_law_digit_here"] ["_law_rest", "_law_m"] (defScope s__law_digit) := ⟨rfl, rfl, rfl, by decide +kernel, rfl, by decide +kernel, by decide +kernel⟩
abbrev s__law_choose : Stmt := top 24
theorem sc__law_choose : FnScope ["_law_many", "_law_few", "_law_found", "_law_k"] ["_law_many", "_law_few"] (defScope s__law_choose) := ⟨rfl, rfl, rfl, by decide +kernel, rfl, by decide +kernel, by decide +kernel⟩
abbrev s__law_sizes : Stmt := top 25
theorem sc__law_sizes : FnScope ["_law_rest"] ["_law_rest"] (defScope s__law_sizes) := ⟨rfl, rfl, rfl, by decide +kernel, rfl, by decide +kernel, by decide +kernel⟩
abbrev s__law_table : Stmt := top 26
theorem sc__law_table : FnScope ["_law_rest", "_law_sizes_here", "_law_signs", "_law_found", "_law_d", "_law_s", "_law_number"] ["_law_rest", "_law_sizes_here", "_law_signs"] (defScope s__law_table) := ⟨rfl, rfl, rfl, by decide +kernel, rfl, by decide +kernel, by decide +kernel⟩
abbrev s__law_right : Stmt := top 27
theorem sc__law_right : FnScope ["_law_told", "_law_row"] ["_law_told"] (defScope s__law_right) := ⟨rfl, rfl, rfl, by decide +kernel, rfl, by decide +kernel, by decide +kernel⟩
abbrev s__law_numbers : Stmt := top 28
theorem sc__law_numbers : FnScope ["_law_table_here", "_law_found", "_law_d", "_law_s", "_law_number"] ["_law_table_here"] (defScope s__law_numbers) := ⟨rfl, rfl, rfl, by decide +kernel, rfl, by decide +kernel, by decide +kernel⟩
abbrev s__law_sum : Stmt := top 29
theorem sc__law_sum : FnScope ["_law_wholes", "_law_counts", "_law_d", "_law_s", "_law_total", "_law_e", "_law_r", "_law_rest"] ["_law_wholes", "_law_counts", "_law_d", "_law_s"] (defScope s__law_sum) := ⟨rfl, rfl, rfl, by decide +kernel, rfl, by decide +kernel, by decide +kernel⟩
abbrev s__law_sums_hold : Stmt := top 30
theorem sc__law_sums_hold : FnScope ["_law_wholes", "_law_counts", "_law_greatest", "_law_most", "_law_d", "_law_s"] ["_law_wholes", "_law_counts", "_law_greatest", "_law_most"] (defScope s__law_sums_hold) := ⟨rfl, rfl, rfl, by decide +kernel, rfl, by decide +kernel, by decide +kernel⟩
abbrev s__law_odd : Stmt := top 31
theorem sc__law_odd : FnScope ["_law_cell", "_law_rest", "_law_way", "_law_far"] ["_law_cell"] (defScope s__law_odd) := ⟨rfl, rfl, rfl, by decide +kernel, rfl, by decide +kernel, by decide +kernel⟩
abbrev s__law_refused : Stmt := top 32
theorem sc__law_refused : FnScope ["_law_table_here", "_law_greatest", "_law_e"] ["_law_table_here", "_law_greatest"] (defScope s__law_refused) := ⟨rfl, rfl, rfl, by decide +kernel, rfl, by decide +kernel, by decide +kernel⟩
abbrev s_law : Stmt := top 33
theorem sc_law : FnScope ["_law_script", "_law_rest", "_law_sizes_here", "_law_table_here", "_law_greatest", "_law_told", "_law_last"] ["_law_script"] (defScope s_law) := ⟨rfl, rfl, rfl, by decide +kernel, rfl, by decide +kernel, by decide +kernel⟩
set_option genInjectivity false
set_option genSizeOfSpec false
set_option genSizeOf false
structure Fb (K : PySem.W.Frag) (mg : Str → Option Value) (n : Str) (st : Stmt) (ps : List Str) (f : Addr) (d : FuncData) : Prop where
  F : Fun K n n st f d
  B : Binds K d ps []
  m : mg n = some (.ref f)
structure Fns (K : PySem.W.Frag) (mg : Str → Option Value) where
  f_is_whole : Addr
  d_is_whole : FuncData
  f_need_between : Addr
  d_need_between : FuncData
  f_choose : Addr
  d_choose : FuncData
  f_by_degree : Addr
  d_by_degree : FuncData
  f_as_table : Addr
  d_as_table : FuncData
  f_add_products : Addr
  d_add_products : FuncData
  f_wholes_by_degree : Addr
  d_wholes_by_degree : FuncData
  f_counts_by_degree : Addr
  d_counts_by_degree : FuncData
  f_wholes_of : Addr
  d_wholes_of : FuncData
  f_counts_of : Addr
  d_counts_of : FuncData
  f__law_cell_at : Addr
  d__law_cell_at : FuncData
  f__law_great : Addr
  d__law_great : FuncData
  f__law_digit : Addr
  d__law_digit : FuncData
  f__law_choose : Addr
  d__law_choose : FuncData
  f__law_sizes : Addr
  d__law_sizes : FuncData
  f__law_table : Addr
  d__law_table : FuncData
  f__law_right : Addr
  d__law_right : FuncData
  f__law_numbers : Addr
  d__law_numbers : FuncData
  f__law_sum : Addr
  d__law_sum : FuncData
  f__law_sums_hold : Addr
  d__law_sums_hold : FuncData
  f__law_odd : Addr
  d__law_odd : FuncData
  f__law_refused : Addr
  d__law_refused : FuncData
  f_law : Addr
  d_law : FuncData
  X_is_whole : Fb K mg "is_whole" s_is_whole ["thing"] f_is_whole d_is_whole
  X_need_between : Fb K mg "need_between" s_need_between ["thing", "least", "greatest"] f_need_between d_need_between
  X_choose : Fb K mg "choose" s_choose ["number", "chosen"] f_choose d_choose
  X_by_degree : Fb K mg "by_degree" s_by_degree ["table", "greatest"] f_by_degree d_by_degree
  X_as_table : Fb K mg "as_table" s_as_table ["numbers"] f_as_table d_as_table
  X_add_products : Fb K mg "add_products" s_add_products ["total", "wholes", "counts", "sign"] f_add_products d_add_products
  X_wholes_by_degree : Fb K mg "wholes_by_degree" s_wholes_by_degree ["counts"] f_wholes_by_degree d_wholes_by_degree
  X_counts_by_degree : Fb K mg "counts_by_degree" s_counts_by_degree ["wholes"] f_counts_by_degree d_counts_by_degree
  X_wholes_of : Fb K mg "wholes_of" s_wholes_of ["table"] f_wholes_of d_wholes_of
  X_counts_of : Fb K mg "counts_of" s_counts_of ["table", "greatest"] f_counts_of d_counts_of
  X__law_cell_at : Fb K mg "_law_cell_at" s__law_cell_at ["_law_script", "_law_k"] f__law_cell_at d__law_cell_at
  X__law_great : Fb K mg "_law_great" s__law_great ["_law_cell"] f__law_great d__law_great
  X__law_digit : Fb K mg "_law_digit" s__law_digit ["_law_rest", "_law_m"] f__law_digit d__law_digit
  X__law_choose : Fb K mg "_law_choose" s__law_choose ["_law_many", "_law_few"] f__law_choose d__law_choose
  X__law_sizes : Fb K mg "_law_sizes" s__law_sizes ["_law_rest"] f__law_sizes d__law_sizes
  X__law_table : Fb K mg "_law_table" s__law_table ["_law_rest", "_law_sizes_here", "_law_signs"] f__law_table d__law_table
  X__law_right : Fb K mg "_law_right" s__law_right ["_law_told"] f__law_right d__law_right
  X__law_numbers : Fb K mg "_law_numbers" s__law_numbers ["_law_table_here"] f__law_numbers d__law_numbers
  X__law_sum : Fb K mg "_law_sum" s__law_sum ["_law_wholes", "_law_counts", "_law_d", "_law_s"] f__law_sum d__law_sum
  X__law_sums_hold : Fb K mg "_law_sums_hold" s__law_sums_hold ["_law_wholes", "_law_counts", "_law_greatest", "_law_most"] f__law_sums_hold d__law_sums_hold
  X__law_odd : Fb K mg "_law_odd" s__law_odd ["_law_cell"] f__law_odd d__law_odd
  X__law_refused : Fb K mg "_law_refused" s__law_refused ["_law_table_here", "_law_greatest"] f__law_refused d__law_refused
  X_law : Fb K mg "law" s_law ["_law_script"] f_law d_law
  n_isinstance : mg "isinstance" = none
  n_int : mg "int" = none
  n_bool : mg "bool" = none
  n_range : mg "range" = none
  n_sorted : mg "sorted" = none
  n_dict : mg "dict" = none
  n_max : mg "max" = none
  n_len : mg "len" = none
  n_all : mg "all" = none
  n_list : mg "list" = none
  n_any : mg "any" = none
  n_tuple : mg "tuple" = none
  n_ValueError : mg "ValueError" = none
  c_NoBound : Addr
  m_NoBound : mg "NoBound" = some (.ref c_NoBound)
  c_CurveError : Addr
  m_CurveError : mg "CurveError" = some (.ref c_CurveError)
  c_NoDrawing : Addr
  m_NoDrawing : mg "NoDrawing" = some (.ref c_NoDrawing)
  c_NoEnds : Addr
  m_NoEnds : mg "NoEnds" = some (.ref c_NoEnds)
  c_NoNumber : Addr
  m_NoNumber : mg "NoNumber" = some (.ref c_NoNumber)
  c_NoText : Addr
  m_NoText : mg "NoText" = some (.ref c_NoText)
  x_NoBound : PySem.W.excIn K c_NoBound bmV "ValueError.__new__" = true
  X_NoBound : XC K c_NoBound
  e_NoBound_CurveError : PySem.W.exmOne K (.ref c_NoBound) (.ref c_CurveError) = some true
  k_NoBound_NoBound : PySem.W.kitOne K (.ref c_NoBound) (.ref c_NoBound) = some true
  k_NoBound_ValueError : PySem.W.kitOne K (.ref c_NoBound) (.type "ValueError") = some true
  ks_NoBound_0 : PySem.W.kitAny K (.ref c_NoBound) [(.ref c_NoDrawing), (.ref c_NoEnds), (.ref c_NoNumber), (.ref c_NoText)] = some false
theorem pcq {X : Cx} {k n : Nat} {x : Str} {st : Stmt} {f : Addr} {fd : FuncData} {ps : List Str} {sp : Sp} {e : Expr} {es : List Expr} {t : TA} {p pos : Pos} (F : FnOk X.prog X.w X.K X.mg X.base CX0 k f fd ps sp) (hr : Room n X.A) (B : Fb X.K X.mg x st ps f fd) (ha : PA X (e :: es) t) (hk : k ≤ n := by decide) (hg : Gl X x := by rfl) (hdb : (x == ("__debug__" : Str)) = false := by decide) (he : starEach (e :: es) X.env = (false, eval e X.env) :: starEach es X.env := by rfl) (hpl : (backTo pos (starEach es X.env)).any (·.1) = false := by rfl) : PE X (.Call (.Name x p) (e :: es) [] pos) (tCall sp [] E0 t) := pe_call F (hr.mono hk) hg B.m B.F.kp B.B .nil pass0 ha hdb he hpl
theorem pSA {X : Cx} {i : Nat} {x : Str} {e : Expr} {te : TE} {pos pos' : Pos} (hN : X.N.Nodup) (he : PE X e te) (hi : X.N[i]? = some x := by rfl) (hx : Loc X.env.scope x := by first | exact Or.inl rfl | exact Or.inr rfl) (hs : swapsWith e (some (.Name x pos')) pos.line X.env = pure false := by rfl) (hf : X.fn x = true ∨ X.env.scope.names.lookup x = some .local := by first | exact .inl rfl | exact .inr rfl | assumption) : PS X (.Assign [.Name x pos'] e pos) (tAsg te (gName i)) := ps_set hN hi hx he hs hf
theorem pGA {X : Cx} {i : Nat} {x : Str} {pos : Pos} (hN : X.N.Nodup) (hi : X.N[i]? = some x := by rfl) (hx : Loc X.env.scope x := by first | exact Or.inl rfl | exact Or.inr rfl) (hf : X.fn x = true ∨ X.env.scope.names.lookup x = some .local := by first | exact .inl rfl | exact .inr rfl | assumption) : PG X (.Name x pos) (gName i) := pg_name hN hi hx hf
theorem zB {n : Nat} (h : Nat.ble n sizeLine = true) : n ≤ sizeLine := Nat.le_of_ble_eq_true h
theorem FbO {P : Program} {w : World} {K : PySem.W.Frag} {mg : Str → Option Value} {base : Heap} {x : Str} {st : Stmt} {f : Addr} {fd : FuncData} {N ps : List Str} {k : Nat} {sp : Sp} (B : Fb K mg x st ps f fd) (S : FnScope N ps (defScope st)) (hbody : ∀ (cdv : Value) (A : Around) (outer : List Env) (s : Shared) (H : Hp) (vs : List V) (Q : VK) (E : XK), Room k (A.deeper (envOfC x (defScope st) s.heap.objs.size f cdv)) → sp vs H Q E → ∃ t, PSs (cxOf CX0 P w K mg base N x (defScope st) f cdv A outer s H E).nox (defBody st) t ∧ t { nx := fun _ H' => Q .non H', rt := Q } (start N vs) H) (len : ∀ vs H Q E, sp vs H Q E → vs.length = ps.length := by ac_rfl) : FnOk P w K mg base CX0 (k + 1) f fd ps sp := B.F.ok S len hbody
abbrev OKQ {K : PySem.W.Frag} {mg : Str → Option Value} {n : Str} {st : Stmt} {ps : List Str} {f : Addr} {d : FuncData} (_ : Fb K mg n st ps f d) (P : Program) (w : World) (base : Heap) (k : Nat) (sp : Sp) : Prop := FnOk P w K mg base CX0 k f d ps sp
theorem issM {H : Hp} {α : Type} {f : α → D} {L : List α} {vs : List V} {i : Nat} {v : V} (h : Iss H (L.map f) vs) (hi : vs[i]? = some v) : ∃ x, L[i]? = some x ∧ Is H (f x) v := by
  have ⟨d, hd, h⟩ := h.of_get hi
  rw [List.getElem?_map] at hd
  obtain ⟨x, hx, rfl⟩ := Option.map_eq_some_iff.mp hd
  exact ⟨x, hx, h⟩
def chF (n : Int) : Nat → Int
  | 0 => 1
  | i + 1 => chF n i * (n - (0 + (i : Int))) / ((0 + (i : Int)) + 1)
def cho (n k : Int) : Int := if k < 0 ∨ k > n then 0 else chF n k.toNat
/-! tables by degree: functions of finite support, their products with choices, there and back -/
def sumN (f : Nat → Int) : Nat → Int
  | 0 => 0
  | n + 1 => sumN f n + f n
theorem sumN_congr {f g : Nat → Int} : ∀ {n : Nat}, (∀ i, i < n → f i = g i) → sumN f n = sumN g n
  | 0, _ => rfl
  | n + 1, h => by
    unfold sumN
    rw [sumN_congr fun i hi => h i (by omega), h n (by omega)]
theorem sumN_zero {f : Nat → Int} {n : Nat} (h : ∀ i, i < n → f i = 0) : sumN f n = 0 := by
  rw [sumN_congr (g := fun _ => 0) h]
  clear h
  induction n with
  | zero => rfl
  | succ n ih => unfold sumN; rw [ih]; rfl
theorem sumN_add (f g : Nat → Int) : ∀ n : Nat, sumN (fun i => f i + g i) n = sumN f n + sumN g n
  | 0 => rfl
  | n + 1 => by
    unfold sumN
    rw [sumN_add f g n]
    omega
theorem sumN_one {k : Nat} {a : Int} : ∀ {n : Nat}, k < n → sumN (fun i => if i = k then a else 0) n = a
  | 0, h => absurd h (Nat.not_lt_zero _)
  | n + 1, h => by
    unfold sumN
    by_cases e : n = k
    · subst e
      rw [if_pos rfl, sumN_zero fun i hi => if_neg (by omega)]
      omega
    · rw [if_neg e, sumN_one (by omega)]
      omega
/-- a dict's entries as a function -/
def vF : List (Nat × Int) → Nat → Int
  | [], _ => 0
  | (k, a) :: r, i => if i = k then a else vF r i
theorem vF_out : ∀ {kvs : List (Nat × Int)} {i : Nat}, i ∉ kvs.map (·.1) → vF kvs i = 0
  | [], _, _ => rfl
  | (k, a) :: r, i, h => by
    rw [List.map_cons, List.mem_cons, not_or] at h
    unfold vF
    rw [if_neg h.1, vF_out h.2]
/-- a sum over the entries is a sum over all keys -/
theorem ent_sum (G : Nat → Int → Int) (hG : ∀ i, G i 0 = 0) {n : Nat} : ∀ {kvs : List (Nat × Int)}, (kvs.map (·.1)).Nodup → (∀ x ∈ kvs, x.1 < n) → (kvs.map fun x => G x.1 x.2).sum = sumN (fun i => G i (vF kvs i)) n
  | [], _, _ => (sumN_zero (f := fun i => G i (vF [] i)) fun i _ => hG i).symm
  | (k, a) :: r, nd, h => by
    rw [List.map_cons, List.nodup_cons] at nd
    rw [List.map_cons, List.sum_cons, ent_sum G hG nd.2 fun x hx => h x (List.mem_cons_of_mem _ hx)]
    have hk : k < n := h (k, a) List.mem_cons_self
    have e : (fun i => G i (vF ((k, a) :: r) i)) = fun i => (if i = k then G k a else 0) + G i (vF r i) := by
      funext i
      show G i (if i = k then a else vF r i) = _
      by_cases hi : i = k
      · subst hi
        rw [if_pos rfl, if_pos rfl, vF_out nd.1, hG]
        omega
      · rw [if_neg hi, if_neg hi]
        omega
    rw [e, sumN_add, sumN_one hk]
/-- products with choices -/
def conv (ch : Nat → Nat → Int) (n : Nat) (f g : Nat → Int) (s : Nat) : Int := sumN (fun r => sumN (fun t => if r + t = s then f r * g t * ch s r else 0) n) n
/-- the sum over e from 1 to d - 1 -/
def below (F : Nat → Int) (d : Nat) : Int := sumN (fun e => F (e + 1)) (d - 1)
theorem below_congr {F G : Nat → Int} {d : Nat} (h : ∀ e, 1 ≤ e → e < d → F e = G e) : below F d = below G d := sumN_congr fun e he => h (e + 1) (by omega) (by omega)
/-! dicts keyed by ints in the heap -/
def dI (xs : List (Nat × Int)) : List (Key × V) := xs.map fun x => (.inl (x.1 : Int), .int x.2)
def putN (xs : List (Nat × Int)) (k : Nat) (v : Int) : List (Nat × Int) := if (xs.any fun x => decide (x.1 = k)) = true then xs.map (fun x => if x.1 = k then (x.1, v) else x) else xs ++ [(k, v)]
theorem key_eq_nat {a b : Nat} : (Sum.inl (a : Int) : Key) = Sum.inl (b : Int) ↔ a = b := ⟨fun h => by have := Sum.inl.inj h; omega, fun h => by rw [h]⟩
theorem dI_any (xs : List (Nat × Int)) (k : Nat) : ((dI xs).any fun kv => decide (kv.1 = (Sum.inl (k : Int) : Key))) = xs.any fun x => decide (x.1 = k) := by
  unfold dI
  rw [List.any_map]
  congr 1
  funext x
  exact decide_eq_decide.mpr key_eq_nat
theorem dI_put (xs : List (Nat × Int)) (k : Nat) (v : Int) : putK (dI xs) (.inl (k : Int)) (.int v) = dI (putN xs k v) := by
  unfold putK putN
  rw [dI_any]
  by_cases h : (xs.any fun x => decide (x.1 = k)) = true
  · rw [if_pos h, if_pos h]
    unfold dI
    rw [List.map_map, List.map_map]
    refine List.map_congr_left fun x _ => ?_
    show (if (Sum.inl (x.1 : Int) : Key) = .inl (k : Int) then _ else _) = _
    by_cases e : x.1 = k
    · rw [if_pos (key_eq_nat.mpr e)]
      simp only [Function.comp, if_pos e]
    · rw [if_neg fun z => e (key_eq_nat.mp z)]
      simp only [Function.comp, if_neg e]
  · rw [if_neg h, if_neg h]
    unfold dI
    rw [List.map_append]
    rfl
theorem dI_val (xs : List (Nat × Int)) (k : Nat) : valV (dI xs) (.inl (k : Int)) = if k ∈ xs.map (·.1) then some (.int (vF xs k)) else none := by
  induction xs with
  | nil => rfl
  | cons x r ih =>
    obtain ⟨j, a⟩ := x
    unfold valV dI at ih ⊢
    rw [List.map_cons, List.find?_cons, List.map_cons]
    by_cases e : j = k
    · subst e
      simp [vF]
    · have e' : ¬ ((Sum.inl (j : Int) : Key) = .inl (k : Int)) := fun z => e (key_eq_nat.mp z)
      rw [decide_eq_false e']
      have e2 : ¬ k = j := fun z => e z.symm
      simp only [List.mem_cons, e2, false_or]
      rw [show vF ((j, a) :: r) k = vF r k from if_neg e2]
      exact ih
theorem keysN_put (xs : List (Nat × Int)) (k : Nat) (v : Int) : (putN xs k v).map (·.1) = if k ∈ xs.map (·.1) then xs.map (·.1) else xs.map (·.1) ++ [k] := by
  unfold putN
  have : (xs.any fun x => decide (x.1 = k)) = true ↔ k ∈ xs.map (·.1) := by
    rw [List.any_eq_true, List.mem_map]
    simp
  by_cases h : k ∈ xs.map (·.1)
  · rw [if_pos h, if_pos (this.mpr h), List.map_map]
    refine List.map_congr_left fun x _ => ?_
    simp only [Function.comp]
    split <;> rfl
  · rw [if_neg h, if_neg (fun z => h (this.mp z)), List.map_append]
    rfl
theorem nodupN_put {xs : List (Nat × Int)} (h : (xs.map (·.1)).Nodup) (k : Nat) (v : Int) : ((putN xs k v).map (·.1)).Nodup := by
  rw [keysN_put]
  by_cases e : k ∈ xs.map (·.1)
  · rw [if_pos e]; exact h
  · rw [if_neg e]
    refine List.nodup_append.mpr ⟨h, by simp, fun a ha b hb z => ?_⟩
    rw [List.mem_singleton.mp hb] at z
    exact e (z ▸ ha)
theorem vF_app {k : Nat} {v : Int} {i : Nat} : ∀ {xs : List (Nat × Int)}, vF (xs ++ [(k, v)]) i = if i ∈ xs.map (·.1) then vF xs i else if i = k then v else 0
  | [] => by simp [vF]
  | (j, a) :: r => by
    rw [List.cons_append, List.map_cons]
    unfold vF
    by_cases e : i = j
    · simp [e]
    · rw [if_neg e, if_neg e, vF_app]
      by_cases hi : i ∈ r.map (·.1)
      · rw [if_pos hi, if_pos (List.mem_cons_of_mem _ hi)]
      · rw [if_neg hi, if_neg fun z => (List.mem_cons.mp z).elim e hi]
theorem vF_set {k : Nat} {v : Int} {i : Nat} : ∀ {xs : List (Nat × Int)}, k ∈ xs.map (·.1) → vF (xs.map fun x => if x.1 = k then (x.1, v) else x) i = if i = k then v else vF xs i
  | [], h => by simp at h
  | (j, a) :: r, h => by
    rw [List.map_cons]
    by_cases ej : j = k
    · subst ej
      rw [if_pos rfl]
      unfold vF
      by_cases e : i = j
      · rw [if_pos e, if_pos e]
      · rw [if_neg e, if_neg e, if_neg e]
        by_cases hr : j ∈ r.map (·.1)
        · rw [vF_set hr, if_neg e]
        · rw [show (r.map fun x => if x.1 = j then (x.1, v) else x) = r by
            conv => rhs; rw [← List.map_id r]
            refine List.map_congr_left fun x hx => ?_
            rw [if_neg fun z => hr (List.mem_map.mpr ⟨x, hx, z⟩)]
            rfl]
    · have hr : k ∈ r.map (·.1) := by
        rw [List.map_cons, List.mem_cons] at h
        exact h.resolve_left fun z => ej z.symm
      rw [if_neg ej]
      unfold vF
      by_cases e : i = j
      · rw [if_pos e, if_pos e, if_neg (by omega)]
      · rw [if_neg e, if_neg e, vF_set hr]
theorem vF_put (xs : List (Nat × Int)) (k : Nat) (v : Int) (i : Nat) : vF (putN xs k v) i = if i = k then v else vF xs i := by
  unfold putN
  have : (xs.any fun x => decide (x.1 = k)) = true ↔ k ∈ xs.map (·.1) := by
    rw [List.any_eq_true, List.mem_map]
    simp
  by_cases h : k ∈ xs.map (·.1)
  · rw [if_pos (this.mpr h), vF_set h]
  · rw [if_neg (fun z => h (this.mp z)), vF_app]
    by_cases e : i = k
    · subst e
      rw [if_neg h, if_pos rfl, if_pos rfl]
    · rw [if_neg e, if_neg e]
      by_cases hi : i ∈ xs.map (·.1)
      · rw [if_pos hi]
      · rw [if_neg hi, vF_out hi]

/-! tables told by functions -/
def chS (s r : Nat) : Int := cho ((s : Int) - 1) ((r : Int) - 1)
def chQ : Bool := (List.range 81).all fun n => (List.range 20).all fun k => decide (0 ≤ cho (n : Int) (k : Int)) && decide (cho (n : Int) (k : Int) < 2 ^ 63)
theorem chQ_ok : chQ = true := by decide +kernel
theorem chS_ok {s r : Nat} (h1 : 1 ≤ s) (h2 : s ≤ 81) (h3 : 1 ≤ r) (h4 : r ≤ 20) : 0 ≤ chS s r ∧ chS s r < 2 ^ 63 := by
  have h := chQ_ok
  unfold chQ at h
  rw [List.all_eq_true] at h
  have h := h (s - 1) (List.mem_range.mpr (by omega))
  rw [List.all_eq_true] at h
  have h := h (r - 1) (List.mem_range.mpr (by omega))
  have e1 : ((s - 1 : Nat) : Int) = (s : Int) - 1 := by omega
  have e2 : ((r - 1 : Nat) : Int) = (r : Int) - 1 := by omega
  rw [e1, e2] at h
  unfold chS
  simpa using h
/-- where a table may have numbers -/
def FOk (q n : Nat) (F : Nat → Nat → Int) : Prop := ∀ d s, F d s ≠ 0 → 1 ≤ d ∧ d ≤ n ∧ 1 ≤ s ∧ s ≤ q * d
def Sz (q n : Nat) : Prop := q * n ≤ 80 ∧ 1 ≤ n ∧ n ≤ 4
theorem Sz.le {q n d : Nat} (h : Sz q n) (hd : d ≤ n) : q * d ≤ 80 := Nat.le_trans (Nat.mul_le_mul_left q hd) h.1
def cv (f g : Nat → Int) (s : Nat) : Int := conv chS 81 f g s
def Wh (g : Nat) (N W : Nat → Nat → Int) : Prop := ∀ d s, W d s = if 1 ≤ d ∧ d ≤ g then N d s - below (fun e => cv (W e) (N (d - e)) s) d else 0
def Co (g : Nat) (W C : Nat → Nat → Int) : Prop := ∀ d s, C d s = if 1 ≤ d ∧ d ≤ g then W d s + below (fun e => cv (W e) (C (d - e)) s) d else 0
theorem sumN_ne {f : Nat → Int} {n : Nat} (h : sumN f n ≠ 0) : ∃ i, i < n ∧ f i ≠ 0 := by
  refine Classical.byContradiction fun c => h (sumN_zero fun i hi => ?_)
  exact Classical.byContradiction fun e => c ⟨i, hi, e⟩
theorem cv_ne {f g : Nat → Int} {s : Nat} (h : cv f g s ≠ 0) : ∃ r t, f r ≠ 0 ∧ g t ≠ 0 ∧ r + t = s := by
  obtain ⟨r, _, h⟩ := sumN_ne h
  obtain ⟨t, _, h⟩ := sumN_ne h
  by_cases e : r + t = s
  · rw [if_pos e] at h
    refine ⟨r, t, fun z => h ?_, fun z => h ?_, e⟩
    · rw [z]; simp
    · rw [z]; simp
  · rw [if_neg e] at h
    exact absurd rfl h
theorem below_ne {F : Nat → Int} {d : Nat} (h : below F d ≠ 0) : ∃ e, 1 ≤ e ∧ e < d ∧ F e ≠ 0 := by
  obtain ⟨e, he, h⟩ := sumN_ne h
  exact ⟨e + 1, by omega, by omega, h⟩
theorem Wh.ok {q n g : Nat} {N W : Nat → Nat → Int} (h : Wh g N W) (hN : FOk q n N) (hg : g ≤ n) : FOk q n W := by
  have go : ∀ d, ∀ s, W d s ≠ 0 → 1 ≤ d ∧ d ≤ n ∧ 1 ≤ s ∧ s ≤ q * d := by
    intro d
    induction d using Nat.strongRecOn with
    | _ d ih =>
      intro s hs
      rw [h] at hs
      by_cases hd : 1 ≤ d ∧ d ≤ g
      · rw [if_pos hd] at hs
        by_cases e : N d s = 0
        · obtain ⟨e, e1, e2, hh⟩ := below_ne (F := fun e => cv (W e) (N (d - e)) s) (d := d) (by omega)
          obtain ⟨r, t, hr, ht, es⟩ := cv_ne hh
          have := ih e e2 r hr
          have := hN _ _ ht
          have : q * d = q * e + q * (d - e) := by rw [← Nat.mul_add]; congr 1; omega
          omega
        · exact hN d s e
      · rw [if_neg hd] at hs
        exact absurd rfl hs
  exact go
theorem Co.ok {q n g : Nat} {W C : Nat → Nat → Int} (h : Co g W C) (hW : FOk q n W) (hg : g ≤ n) : FOk q n C := by
  have go : ∀ d, ∀ s, C d s ≠ 0 → 1 ≤ d ∧ d ≤ n ∧ 1 ≤ s ∧ s ≤ q * d := by
    intro d
    induction d using Nat.strongRecOn with
    | _ d ih =>
      intro s hs
      rw [h] at hs
      by_cases hd : 1 ≤ d ∧ d ≤ g
      · rw [if_pos hd] at hs
        by_cases e : W d s = 0
        · obtain ⟨e, e1, e2, hh⟩ := below_ne (F := fun e => cv (W e) (C (d - e)) s) (d := d) (by omega)
          obtain ⟨r, t, hr, ht, es⟩ := cv_ne hh
          have := hW _ _ hr
          have := ih (d - e) (by omega) t ht
          have : q * d = q * e + q * (d - e) := by rw [← Nat.mul_add]; congr 1; omega
          omega
        · exact hW d s e
      · rw [if_neg hd] at hs
        exact absurd rfl hs
  exact go
/-! the rows -/
def rowI (d s : Nat) (v : Int) : List Int := [(d : Int), (s : Int), v]
theorem rowI_inj {d s d' s' : Nat} {v v' : Int} (h : rowI d s v = rowI d' s' v') : d = d' ∧ s = s' ∧ v = v' := by
  unfold rowI at h
  simp only [List.cons.injEq, and_true] at h
  exact ⟨by omega, by omega, h.2.2⟩
def rowsD (q : Nat) (F : Nat → Nat → Int) (d : Nat) : List (List Int) := (List.range (q * d)).flatMap fun s => if F d (s + 1) = 0 then [] else [rowI d (s + 1) (F d (s + 1))]
def canon (q : Nat) (F : Nat → Nat → Int) (n : Nat) : List (List Int) := (List.range n).flatMap fun i => rowsD q F (i + 1)
theorem rowsD_mem {q : Nat} {F : Nat → Nat → Int} {d : Nat} {x : List Int} : x ∈ rowsD q F d ↔ ∃ s, 1 ≤ s ∧ s ≤ q * d ∧ F d s ≠ 0 ∧ x = rowI d s (F d s) := by
  unfold rowsD
  rw [List.mem_flatMap]
  constructor
  · rintro ⟨s, hs, h⟩
    have hs := List.mem_range.mp hs
    by_cases e : F d (s + 1) = 0
    · rw [if_pos e] at h; exact nomatch h
    · rw [if_neg e] at h
      exact ⟨s + 1, by omega, by omega, e, List.mem_singleton.mp h⟩
  · rintro ⟨s, h1, h2, h3, rfl⟩
    obtain ⟨r, rfl⟩ : ∃ r, s = r + 1 := ⟨s - 1, by omega⟩
    exact ⟨r, List.mem_range.mpr (by omega), by rw [if_neg h3]; exact List.mem_singleton.mpr rfl⟩
theorem canon_mem {q n : Nat} {F : Nat → Nat → Int} (hF : FOk q n F) {x : List Int} : x ∈ canon q F n ↔ ∃ d s, F d s ≠ 0 ∧ x = rowI d s (F d s) := by
  unfold canon
  rw [List.mem_flatMap]
  constructor
  · rintro ⟨i, _, h⟩
    obtain ⟨s, _, _, h3, e⟩ := rowsD_mem.mp h
    exact ⟨i + 1, s, h3, e⟩
  · rintro ⟨d, s, h, rfl⟩
    obtain ⟨a, b, c, e⟩ := hF d s h
    obtain ⟨r, rfl⟩ : ∃ r, d = r + 1 := ⟨d - 1, by omega⟩
    exact ⟨r, List.mem_range.mpr (by omega), rowsD_mem.mpr ⟨s, c, e, h, rfl⟩⟩
theorem rowsD_len {q : Nat} {F : Nat → Nat → Int} {d : Nat} : (rowsD q F d).length ≤ q * d := by
  unfold rowsD
  generalize q * d = m
  induction m with
  | zero => simp
  | succ m ih =>
    rw [List.range_succ, List.flatMap_append, List.length_append]
    have : ((List.flatMap (fun s => if F d (s + 1) = 0 then [] else [rowI d (s + 1) (F d (s + 1))]) [m]).length) ≤ 1 := by
      simp only [List.flatMap_cons, List.flatMap_nil, List.append_nil]
      split <;> simp
    omega
theorem canon_len {q n : Nat} {F : Nat → Nat → Int} (hq : Sz q n) : (canon q F n).length ≤ 200 := by
  obtain ⟨h1, h2, h3⟩ := hq
  have r := fun d => rowsD_len (q := q) (F := F) (d := d)
  have r1 := r 1
  have r2 := r 2
  have r3 := r 3
  have r4 := r 4
  have : n = 1 ∨ n = 2 ∨ n = 3 ∨ n = 4 := by omega
  rcases this with e | e | e | e <;> subst e <;> simp only [canon, List.range_succ, List.range_zero, List.nil_append, List.cons_append, List.flatMap_cons, List.flatMap_nil, List.append_nil, List.length_append] <;> simp only [Nat.zero_add, Nat.reduceAdd] <;> omega
/-- rows in order -/
def Asc (xs : List (List Int)) : Prop := xs.Pairwise fun a b => lexI false (a.take 2) (b.take 2) = true
theorem lex_row {d s d' s' : Nat} {v v' : Int} : lexI false ((rowI d s v).take 2) ((rowI d' s' v').take 2) = true ↔ d < d' ∨ d = d' ∧ s < s' := by
  unfold rowI
  simp only [List.take_succ_cons, List.take_zero, lexI]
  by_cases e : (d : Int) = d'
  · rw [if_pos e]
    by_cases e2 : (s : Int) = s'
    · rw [if_pos e2]
      constructor
      · intro h; cases h
      · intro h; omega
    · rw [if_neg e2, decide_eq_true_eq]; omega
  · rw [if_neg e, decide_eq_true_eq]; omega
theorem canon_asc (q n : Nat) (F : Nat → Nat → Int) : Asc (canon q F n) := by
  unfold Asc canon
  refine List.pairwise_flatMap.mpr ⟨fun i _ => ?_, ?_⟩
  · unfold rowsD
    refine List.pairwise_flatMap.mpr ⟨fun s _ => ?_, ?_⟩
    · split <;> simp
    · refine List.pairwise_lt_range.imp fun {a b} hab x hx y hy => ?_
      by_cases e1 : F (i + 1) (a + 1) = 0
      · rw [if_pos e1] at hx; exact nomatch hx
      by_cases e2 : F (i + 1) (b + 1) = 0
      · rw [if_pos e2] at hy; exact nomatch hy
      rw [if_neg e1] at hx
      rw [if_neg e2] at hy
      rw [List.mem_singleton.mp hx, List.mem_singleton.mp hy]
      exact lex_row.mpr (by omega)
  · refine List.pairwise_lt_range.imp fun {a b} hab x hx y hy => ?_
    obtain ⟨s, _, _, _, rfl⟩ := rowsD_mem.mp hx
    obtain ⟨t, _, _, _, rfl⟩ := rowsD_mem.mp hy
    exact lex_row.mpr (by omega)
theorem lexI_irr : ∀ (x : List Int), lexI false x x = false
  | [] => rfl
  | a :: r => by unfold lexI; rw [if_pos rfl]; exact lexI_irr r
theorem Asc.nodup {xs : List (List Int)} (h : Asc xs) : xs.Nodup := List.Pairwise.imp (fun {a b} k e => by subst e; rw [lexI_irr] at k; cases k) h
/-- two lists of rows in order with the same members are one -/
theorem asc_one {xs ys : List (List Int)} (hx : Asc xs) (hy : Asc ys) (h : ∀ r, r ∈ xs ↔ r ∈ ys) : xs = ys := by
  have hp : xs.Perm ys := (List.perm_ext_iff_of_nodup hx.nodup hy.nodup).mpr h
  refine hp.eq_of_pairwise (le := fun (a b : List Int) => lexI false (a.take 2) (b.take 2) = true) (fun a b _ _ e1 e2 => ?_) hx hy
  exfalso
  have : lexI false (b.take 2) (a.take 2) = false := by
    generalize a.take 2 = u at e1 e2
    generalize b.take 2 = v at e1 e2
    clear hx hy h hp
    induction u generalizing v with
    | nil => cases v <;> cases e1
    | cons x u ih =>
      cases v with
      | nil => cases e1
      | cons y v =>
        unfold lexI at e1 e2 ⊢
        by_cases e : x = y
        · rw [if_pos e] at e1
          rw [if_pos e.symm] at e2 ⊢
          exact ih v e1 e2
        · rw [if_neg e, decide_eq_true_eq] at e1
          rw [if_neg fun z => e z.symm, decide_eq_true_eq] at e2
          omega
  rw [this] at e2
  cases e2
/-- a sorted list of the rows of a table is the table -/
theorem sorted_is {q n : Nat} {F : Nat → Nat → Int} (hF : FOk q n F) {xs ys : List (List Int)} (nd : xs.Nodup) (mem : ∀ r, r ∈ xs ↔ ∃ d s, F d s ≠ 0 ∧ r = rowI d s (F d s)) (hp : ys.Perm xs) (so : ∀ i j, i < j → j < ys.length → ltI (ys.getD j []) (ys.getD i []) = false) : ys = canon q F n := by
  have my : ∀ r, r ∈ ys ↔ ∃ d s, F d s ≠ 0 ∧ r = rowI d s (F d s) := fun r => hp.mem_iff.trans (mem r)
  have ny : ys.Nodup := hp.nodup_iff.mpr nd
  refine asc_one ?_ (canon_asc q n F) fun r => (my r).trans (canon_mem hF).symm
  unfold Asc
  rw [List.pairwise_iff_getElem]
  intro i j hi hj hij
  have h := so i j hij hj
  rw [List.getD_eq_getElem?_getD, List.getD_eq_getElem?_getD, List.getElem?_eq_getElem hi, List.getElem?_eq_getElem hj, Option.getD_some, Option.getD_some] at h
  have hne : ys[i] ≠ ys[j] := List.pairwise_iff_getElem.mp ny i j hi hj hij
  obtain ⟨d, s, _, e1⟩ := (my _).mp (List.getElem_mem hi)
  obtain ⟨d', s', _, e2⟩ := (my _).mp (List.getElem_mem hj)
  rw [e1, e2] at hne h ⊢
  rw [lex_row]
  rw [ltI_same (by rfl)] at h
  unfold rowI at h
  simp only [lexI] at h
  by_cases e : (d' : Int) = d
  · rw [if_pos e] at h
    by_cases e3 : (s' : Int) = s
    · exfalso
      obtain rfl : d' = d := by omega
      obtain rfl : s' = s := by omega
      exact hne rfl
    · rw [if_neg e3, decide_eq_false_iff_not] at h
      omega
  · rw [if_neg e, decide_eq_false_iff_not] at h
    omega
/-- drawn rows are the table of a function -/
theorem rows_tab {q n : Nat} {B : Int} {xs : List (List Int)} (ha : Asc xs) (hr : ∀ x ∈ xs, ∃ d s v, x = rowI d s v ∧ v ≠ 0 ∧ -B ≤ v ∧ v ≤ B ∧ 1 ≤ d ∧ d ≤ n ∧ 1 ≤ s ∧ s ≤ q * d) (hB : 0 ≤ B) : ∃ F, FOk q n F ∧ xs = canon q F n ∧ ∀ d s, (-B ≤ F d s ∧ F d s ≤ B) ∧ (F d s ≠ 0 → rowI d s (F d s) ∈ xs) := by
  classical
  refine ⟨fun d s => if h : ∃ v, rowI d s v ∈ xs then h.choose else 0, ?_⟩
  have one : ∀ d s v, rowI d s v ∈ xs → (if h : ∃ v, rowI d s v ∈ xs then h.choose else 0) = v := by
    intro d s v hv
    have h : ∃ v, rowI d s v ∈ xs := ⟨v, hv⟩
    rw [dif_pos h]
    have hc := h.choose_spec
    refine Classical.byContradiction fun ne => ?_
    have := List.Pairwise.forall_of_forall_of_flip (R := fun a b : List Int => a = b ∨ lexI false (a.take 2) (b.take 2) = true ∨ lexI false (b.take 2) (a.take 2) = true) (l := xs) (fun x _ => .inl rfl) (ha.imp fun k => .inr (.inl k)) (ha.imp fun k => .inr (.inr k)) hc hv
    rcases this with e | e | e
    · exact ne (rowI_inj e).2.2
    · have := lex_row.mp e; omega
    · have := lex_row.mp e; omega
  have all : ∀ d s, (if h : ∃ v, rowI d s v ∈ xs then h.choose else 0) ≠ 0 → rowI d s (if h : ∃ v, rowI d s v ∈ xs then h.choose else 0) ∈ xs := by
    intro d s hne
    by_cases h : ∃ v, rowI d s v ∈ xs
    · obtain ⟨v, hv⟩ := h
      rw [one d s v hv]
      exact hv
    · rw [dif_neg h] at hne
      exact absurd rfl hne
  have ok : FOk q n fun d s => if h : ∃ v, rowI d s v ∈ xs then h.choose else 0 := by
    intro d s hne
    obtain ⟨d', s', v, e, _, _, _, a, b, c, f⟩ := hr _ (all d s hne)
    obtain ⟨rfl, rfl, _⟩ := rowI_inj e
    exact ⟨a, b, c, f⟩
  refine ⟨ok, asc_one ha (canon_asc q n _) fun r => ?_, fun d s => ⟨?_, all d s⟩⟩
  · rw [canon_mem ok]
    constructor
    · intro h
      obtain ⟨d, s, v, rfl, hv, _⟩ := hr _ h
      exact ⟨d, s, by rw [one d s v h]; exact hv, by rw [one d s v h]⟩
    · rintro ⟨d, s, h, rfl⟩
      exact all d s h
  · show -B ≤ (if h : ∃ v, rowI d s v ∈ xs then h.choose else 0) ∧ (if h : ∃ v, rowI d s v ∈ xs then h.choose else 0) ≤ B
    by_cases h : (if h : ∃ v, rowI d s v ∈ xs then h.choose else 0) = 0
    · rw [h]; omega
    · obtain ⟨d', s', v, e, _, a, b, _⟩ := hr _ (all d s h)
      obtain ⟨rfl, rfl, e3⟩ := rowI_inj e
      rw [e3]
      exact ⟨a, b⟩

/-! dicts of a table -/
theorem nd_len : ∀ {n : Nat} {l : List Nat}, l.Nodup → (∀ x ∈ l, x < n) → l.length ≤ n
  | 0, l, _, h => by
    cases l with
    | nil => simp
    | cons a r => exact absurd (h a List.mem_cons_self) (by omega)
  | n + 1, l, nd, h => by
    by_cases hn : n ∈ l
    · have := nd_len (n := n) (nd.erase n) fun x hx => by
        have h1 := (nd.mem_erase_iff).mp hx
        have := h x h1.2
        have := h1.1
        omega
      rw [List.length_erase_of_mem hn] at this
      omega
    · have := nd_len (n := n) nd fun x hx => by
        have := h x hx
        have : x ≠ n := fun e => hn (e ▸ hx)
        omega
      omega
def EntOk (m : Nat) (xs : List (Nat × Int)) : Prop := (xs.map (·.1)).Nodup ∧ ∀ x ∈ xs, 1 ≤ x.1 ∧ x.1 ≤ m
theorem EntOk.nil (m : Nat) : EntOk m [] := ⟨List.nodup_nil, fun _ h => nomatch h⟩
theorem EntOk.keys {m : Nat} {xs : List (Nat × Int)} (h : EntOk m xs) : ∀ k ∈ xs.map (·.1), 1 ≤ k ∧ k ≤ m := fun k hk => by
  obtain ⟨x, hx, rfl⟩ := List.mem_map.mp hk
  exact h.2 x hx
theorem EntOk.put {m k : Nat} {v : Int} {xs : List (Nat × Int)} (h : EntOk m xs) (h1 : 1 ≤ k) (h2 : k ≤ m) : EntOk m (putN xs k v) := by
  refine ⟨nodupN_put h.1 k v, fun x hx => ?_⟩
  have hk : x.1 ∈ (putN xs k v).map (·.1) := List.mem_map.mpr ⟨x, hx, rfl⟩
  rw [keysN_put] at hk
  by_cases e : k ∈ xs.map (·.1)
  · rw [if_pos e] at hk; exact h.keys _ hk
  · rw [if_neg e] at hk
    rcases List.mem_append.mp hk with hk | hk
    · exact h.keys _ hk
    · rw [List.mem_singleton.mp hk]; exact ⟨h1, h2⟩
theorem EntOk.len {m : Nat} {xs : List (Nat × Int)} (h : EntOk m xs) : xs.length ≤ m + 1 := by
  have := nd_len h.1 (n := m + 1) fun k hk => by have := h.keys k hk; omega
  rwa [List.length_map] at this
theorem EntOk.le {m n : Nat} {xs : List (Nat × Int)} (h : EntOk m xs) (hm : m ≤ n) : EntOk n xs := ⟨h.1, fun x hx => ⟨(h.2 x hx).1, by have := (h.2 x hx).2; omega⟩⟩
theorem vF_of {k : Nat} {v : Int} : ∀ {xs : List (Nat × Int)}, (xs.map (·.1)).Nodup → (k, v) ∈ xs → vF xs k = v
  | [], _, h => nomatch h
  | (j, a) :: r, nd, h => by
    rw [List.map_cons, List.nodup_cons] at nd
    unfold vF
    rcases List.mem_cons.mp h with e | h
    · cases e; rw [if_pos rfl]
    · have : k ∈ r.map (·.1) := List.mem_map.mpr ⟨_, h, rfl⟩
      rw [if_neg fun e : k = j => nd.1 (e ▸ this), vF_of nd.2 h]
theorem vF_mem {k : Nat} : ∀ {xs : List (Nat × Int)}, vF xs k ≠ 0 → (k, vF xs k) ∈ xs
  | [], h => absurd rfl h
  | (j, a) :: r, h => by
    unfold vF at h ⊢
    by_cases e : k = j
    · rw [if_pos e]; subst e; exact List.mem_cons_self
    · rw [if_neg e] at h ⊢; exact List.mem_cons_of_mem _ (vF_mem h)
theorem EntOk.val {m s : Nat} {xs : List (Nat × Int)} (h : EntOk m xs) (hs : vF xs s ≠ 0) : 1 ≤ s ∧ s ≤ m := h.2 _ (vF_mem hs)
/-! the products of two dicts -/
def prd (x : Nat × Int) (ys : List (Nat × Int)) (s : Nat) : Int := (ys.map fun y => if x.1 + y.1 = s then x.2 * y.2 * chS s x.1 else 0).sum
def prds (xs ys : List (Nat × Int)) (s : Nat) : Int := (xs.map fun x => prd x ys s).sum
theorem prds_cv {m k : Nat} {xs ys : List (Nat × Int)} (hx : EntOk m xs) (hy : EntOk k ys) (hm : m ≤ 80) (hk : k ≤ 80) (s : Nat) : prds xs ys s = cv (vF xs) (vF ys) s := by
  unfold prds
  have e1 : ∀ x : Nat × Int, prd x ys s = sumN (fun t => if x.1 + t = s then x.2 * vF ys t * chS s x.1 else 0) 81 := fun x => by
    unfold prd
    exact ent_sum (fun t v => if x.1 + t = s then x.2 * v * chS s x.1 else 0) (fun t => by split <;> simp) hy.1 fun y h => by have := (hy.2 y h).2; omega
  rw [List.map_congr_left fun x _ => e1 x]
  exact ent_sum (fun r v => sumN (fun t => if r + t = s then v * vF ys t * chS s r else 0) 81) (fun r => sumN_zero fun t _ => by split <;> simp) hx.1 fun x h => by have := (hx.2 x h).2; omega
theorem prd_add {x : Nat × Int} {ys : List (Nat × Int)} {j : Nat} {y : Nat × Int} (h : ys[j]? = some y) (s : Nat) : prd x (ys.take (j + 1)) s = prd x (ys.take j) s + if x.1 + y.1 = s then x.2 * y.2 * chS s x.1 else 0 := by
  unfold prd
  rw [List.take_add_one, h, List.map_append, List.sum_append]
  simp
theorem prds_add {xs ys : List (Nat × Int)} {j : Nat} {x : Nat × Int} (h : xs[j]? = some x) (s : Nat) : prds (xs.take (j + 1)) ys s = prds (xs.take j) ys s + prd x ys s := by
  unfold prds
  rw [List.take_add_one, h, List.map_append, List.sum_append]
  simp
/-! the rows of dicts -/
def entR (d : Nat) (xs : List (Nat × Int)) : List (List Int) := xs.flatMap fun x => if x.2 = 0 then [] else [rowI d x.1 x.2]
def fnd (X : Nat → List (Nat × Int)) (g : Nat) : List (List Int) := (List.range g).flatMap fun i => entR (i + 1) (X (i + 1))
def tabX (g : Nat) (X : Nat → List (Nat × Int)) (d s : Nat) : Int := if 1 ≤ d ∧ d ≤ g then vF (X d) s else 0
theorem entR_mem {d : Nat} {xs : List (Nat × Int)} (nd : (xs.map (·.1)).Nodup) {r : List Int} : r ∈ entR d xs ↔ ∃ s, vF xs s ≠ 0 ∧ r = rowI d s (vF xs s) := by
  unfold entR
  rw [List.mem_flatMap]
  constructor
  · rintro ⟨⟨k, v⟩, hx, h⟩
    by_cases e : v = 0
    · rw [if_pos e] at h; exact nomatch h
    · rw [if_neg e] at h
      have := vF_of nd hx
      exact ⟨k, by rw [this]; exact e, by rw [this]; exact List.mem_singleton.mp h⟩
  · rintro ⟨s, h, rfl⟩
    exact ⟨_, vF_mem h, by rw [if_neg h]; exact List.mem_singleton.mpr rfl⟩
theorem fnd_mem {X : Nat → List (Nat × Int)} {g : Nat} (nd : ∀ d, 1 ≤ d → d ≤ g → ((X d).map (·.1)).Nodup) {r : List Int} : r ∈ fnd X g ↔ ∃ d s, tabX g X d s ≠ 0 ∧ r = rowI d s (tabX g X d s) := by
  unfold fnd tabX
  rw [List.mem_flatMap]
  constructor
  · rintro ⟨i, hi, h⟩
    have hi := List.mem_range.mp hi
    obtain ⟨s, h1, h2⟩ := (entR_mem (nd (i + 1) (by omega) (by omega))).mp h
    exact ⟨i + 1, s, by rw [if_pos (by omega)]; exact h1, by rw [if_pos (by omega)]; exact h2⟩
  · rintro ⟨d, s, h1, h2⟩
    by_cases hd : 1 ≤ d ∧ d ≤ g
    · rw [if_pos hd] at h1 h2
      obtain ⟨i, rfl⟩ : ∃ i, d = i + 1 := ⟨d - 1, by omega⟩
      exact ⟨i, List.mem_range.mpr (by omega), (entR_mem (nd (i + 1) (by omega) (by omega))).mpr ⟨s, h1, h2⟩⟩
    · rw [if_neg hd] at h1
      exact absurd rfl h1
theorem fnd_nodup {X : Nat → List (Nat × Int)} {g : Nat} (nd : ∀ d, 1 ≤ d → d ≤ g → ((X d).map (·.1)).Nodup) : (fnd X g).Nodup := by
  unfold fnd
  refine List.pairwise_flatMap.mpr ⟨fun i hi => ?_, ?_⟩
  · have hi := List.mem_range.mp hi
    have n := nd (i + 1) (by omega) (by omega)
    unfold entR
    refine List.pairwise_flatMap.mpr ⟨fun x _ => ?_, ?_⟩
    · split <;> simp
    · refine (List.pairwise_map.mp n).imp fun {a b} hab u hu v hv => ?_
      by_cases e1 : a.2 = 0
      · rw [if_pos e1] at hu; exact nomatch hu
      by_cases e2 : b.2 = 0
      · rw [if_pos e2] at hv; exact nomatch hv
      rw [if_neg e1] at hu
      rw [if_neg e2] at hv
      rw [List.mem_singleton.mp hu, List.mem_singleton.mp hv]
      exact fun e => hab (rowI_inj e).2.1
  · refine List.pairwise_lt_range.imp fun {a b} hab u hu v hv e => ?_
    unfold entR at hu hv
    obtain ⟨x, _, hu⟩ := List.mem_flatMap.mp hu
    obtain ⟨y, _, hv⟩ := List.mem_flatMap.mp hv
    by_cases e1 : x.2 = 0
    · rw [if_pos e1] at hu; exact nomatch hu
    by_cases e2 : y.2 = 0
    · rw [if_pos e2] at hv; exact nomatch hv
    rw [if_neg e1] at hu
    rw [if_neg e2] at hv
    rw [List.mem_singleton.mp hu, List.mem_singleton.mp hv] at e
    have := (rowI_inj e).1
    omega
theorem fnd_len {X : Nat → List (Nat × Int)} {q n g : Nat} (hq : Sz q n) (hF : FOk q n (tabX g X)) (nd : ∀ d, 1 ≤ d → d ≤ g → ((X d).map (·.1)).Nodup) : (fnd X g).length ≤ 200 := by
  have hp : (fnd X g).Perm (canon q (tabX g X) n) := (List.perm_ext_iff_of_nodup (fnd_nodup nd) (canon_asc q n _).nodup).mpr fun r => (fnd_mem nd).trans (canon_mem hF).symm
  rw [hp.length_eq]
  exact canon_len hq
theorem entR_add {d : Nat} {xs : List (Nat × Int)} {j : Nat} {x : Nat × Int} (h : xs[j]? = some x) : entR d (xs.take (j + 1)) = entR d (xs.take j) ++ if x.2 = 0 then [] else [rowI d x.1 x.2] := by
  unfold entR
  rw [List.take_add_one, h, List.flatMap_append]
  simp
theorem fnd_add (X : Nat → List (Nat × Int)) (g : Nat) : fnd X (g + 1) = fnd X g ++ entR (g + 1) (X (g + 1)) := by
  unfold fnd
  rw [List.range_succ, List.flatMap_append]
  simp
/-! the dict of the dicts -/
def outK (b : Nat → Addr) (g : Nat) : List (Key × V) := (List.range g).map fun i => (.inl ((i + 1 : Nat) : Int), .ref (b (i + 1)))
theorem outK_len (b : Nat → Addr) (g : Nat) : (outK b g).length = g := by unfold outK; rw [List.length_map, List.length_range]
theorem outK_at {b : Nat → Addr} {g i : Nat} (h : i < g) : (outK b g)[i]? = some (.inl ((i + 1 : Nat) : Int), .ref (b (i + 1))) := by
  unfold outK
  rw [List.getElem?_map, List.getElem?_range h]
  rfl
theorem outK_val {b : Nat → Addr} {d : Nat} : ∀ {g : Nat}, valV (outK b g) (.inl (d : Int)) = if 1 ≤ d ∧ d ≤ g then some (.ref (b d)) else none
  | 0 => by rw [if_neg (by omega)]; rfl
  | g + 1 => by
    have e : outK b (g + 1) = outK b g ++ [(.inl ((g + 1 : Nat) : Int), .ref (b (g + 1)))] := by unfold outK; rw [List.range_succ, List.map_append]; rfl
    rw [e, valV_snoc _ _ _ _ (by rw [outK_val, if_neg (by omega)]), outK_val]
    by_cases h : d = g + 1
    · subst h; rw [if_pos rfl, if_pos (by omega)]
    · rw [if_neg fun z => h (key_eq_nat.mp z)]
      by_cases h2 : 1 ≤ d ∧ d ≤ g
      · rw [if_pos h2, if_pos (by omega)]
      · rw [if_neg h2, if_neg (by omega)]
theorem outK_get {b : Nat → Addr} {d g : Nat} (h1 : 1 ≤ d) (h2 : d ≤ g) : valV (outK b g) (.inl (d : Int)) = some (.ref (b d)) := by rw [outK_val, if_pos ⟨h1, h2⟩]
theorem outK_congr {b b' : Nat → Addr} {g : Nat} (h : ∀ d, 1 ≤ d → d ≤ g → b d = b' d) : outK b g = outK b' g := by
  unfold outK
  refine List.map_congr_left fun i hi => ?_
  have := List.mem_range.mp hi
  rw [h (i + 1) (by omega) (by omega)]
theorem outK_put (b : Nat → Addr) (g : Nat) (p : Addr) : putK (outK b g) (.inl ((g + 1 : Nat) : Int)) (.ref p) = outK (fun d => if d = g + 1 then p else b d) (g + 1) := by
  unfold putK
  rw [if_neg (by rw [valV_any, outK_val, if_neg (by omega)]; simp)]
  have e : outK (fun d => if d = g + 1 then p else b d) (g + 1) = outK (fun d => if d = g + 1 then p else b d) g ++ [(.inl ((g + 1 : Nat) : Int), .ref p)] := by
    unfold outK
    rw [List.range_succ, List.map_append]
    simp
  rw [e, outK_congr (b := b) (b' := fun d => if d = g + 1 then p else b d) fun d h1 h2 => (if_neg (by omega)).symm]
/-! heaps where dicts were frozen -/
def Fz (H H' : Hp) : Prop := ∀ a u, H a = some u → H' a = some u ∨ ∃ kvs o, (u = .dK kvs ∨ ∃ o', u = .frz o' (.dK kvs)) ∧ H' a = some (.frz o (.dK kvs))
def Pz (x y : Option HO) : Prop := ∀ u, x = some u → y = some u ∨ ∃ kvs o, (u = .dK kvs ∨ ∃ o', u = .frz o' (.dK kvs)) ∧ y = some (.frz o (.dK kvs))
theorem Pz.of_eq {x y : Option HO} (h : y = x) : Pz x y := fun u e => .inl (h.trans e)
theorem Pz.frz {H H' : Hp} {c : Addr} {o : Obj} {kvs : List (Key × V)} (h : Rd H c (.dK kvs)) (e : H' c = some (.frz o (.dK kvs))) : Pz (H c) (H' c) := by
  intro u hu
  rcases h with h | ⟨o', h⟩
  · rw [h] at hu; cases hu; exact .inr ⟨kvs, o, .inl rfl, e⟩
  · rw [h] at hu; cases hu; exact .inr ⟨kvs, o, .inr ⟨_, rfl⟩, e⟩
theorem Pz.trans {x y z : Option HO} (a : Pz x y) (b : Pz y z) : Pz x z := by
  intro u e
  rcases a u e with e1 | ⟨kvs, o, e1, e2⟩
  · exact b u e1
  · rcases b _ e2 with e3 | ⟨k2, o2, e3 | ⟨o3, e3⟩, e4⟩
    · exact .inr ⟨kvs, o, e1, e3⟩
    · cases e3
    · cases e3; exact .inr ⟨kvs, o2, e1, e4⟩
theorem Pz.rd {H H' : Hp} {a : Addr} (z : Pz (H a) (H' a)) {kvs : List (Key × V)} (h : Rd H a (.dK kvs)) : Rd H' a (.dK kvs) := by
  rcases h with h | ⟨o, h⟩
  · rcases z _ h with e | ⟨k2, o2, e1 | ⟨o3, e1⟩, e2⟩
    · exact .inl e
    · cases e1; exact .inr ⟨_, e2⟩
    · cases e1
  · rcases z _ h with e | ⟨k2, o2, e1 | ⟨o3, e1⟩, e2⟩
    · exact .inr ⟨_, e⟩
    · cases e1
    · cases e1; exact .inr ⟨_, e2⟩
theorem Fz.rd {H H' : Hp} (z : Fz H H') {a : Addr} {kvs : List (Key × V)} (h : Rd H a (.dK kvs)) : Rd H' a (.dK kvs) := Pz.rd (z a) h
theorem Fz.trans {H H1 H2 : Hp} (a : Fz H H1) (b : Fz H1 H2) : Fz H H2 := fun x => Pz.trans (a x) (b x)
theorem Fz.of_same {H H' : Hp} (s : Same H H') : Fz H H' := fun _ _ e => .inl (s _ _ e)
theorem Fz.lts {H H' : Hp} (z : Fz H H') : LTS H H' := by
  refine ⟨fun b xs e => ?_, fun b xs e => ?_⟩
  · rcases z _ _ e with h | ⟨k, o, h | ⟨o', h⟩, _⟩
    · exact h
    · cases h
    · cases h
  · rcases z _ _ e with h | ⟨k, o, h | ⟨o', h⟩, _⟩
    · exact h
    · cases h
    · cases h
theorem Fz.free {H H' : Hp} (z : Fz H H') {a : Addr} (h : H' a = none) : H a = none := by
  cases e : H a with
  | none => rfl
  | some u => rcases z _ _ e with h2 | ⟨_, _, _, h2⟩ <;> rw [h] at h2 <;> cases h2
theorem Fz.walk {H H' : Hp} {d : Addr} {o : Obj} {kvs : List (Key × V)} (h : Rd H d (.dK kvs)) (e : H' d = some (.frz o (.dK kvs))) (k : ∀ b, b ≠ d → H' b = H b) : Fz H H' := by
  intro a
  by_cases hd : a = d
  · subst hd; exact Pz.frz h e
  · exact Pz.of_eq (k a hd)
theorem Fz.put {H H1 : Hp} (z : Fz H H1) {p : Addr} (n : H p = none) {o : HO} : Fz H (upd H1 p o) := fun a u e => by
  have : a ≠ p := by rintro rfl; rw [n] at e; cases e
  rw [upd_ne this]
  exact z a u e
/-- a table in the heap: its function, and the way it is laid -/
def Tb (q g : Nat) (H : Hp) (a : Addr) (b : Nat → Addr) (X : Nat → List (Nat × Int)) : Prop := Rd H a (.dK (outK b g)) ∧ ∀ d, 1 ≤ d → d ≤ g → Rd H (b d) (.dK (dI (X d))) ∧ EntOk (q * d) (X d)
theorem Tb.fz {q g : Nat} {H H' : Hp} {a : Addr} {b : Nat → Addr} {X : Nat → List (Nat × Int)} (t : Tb q g H a b X) (z : Fz H H') : Tb q g H' a b X := ⟨z.rd t.1, fun d h1 h2 => ⟨z.rd (t.2 d h1 h2).1, (t.2 d h1 h2).2⟩⟩
theorem dI_get {H : Hp} {a : Addr} {xs : List (Nat × Int)} (h : Rd H a (.dK (dI xs))) {k : Nat} (hk : k ∈ xs.map (·.1)) : DGet H a (.int (k : Int)) (some (.int (vF xs k))) := .inl ⟨dI xs, .inl (k : Int), h, rfl, by rw [dI_val, if_pos hk]⟩
theorem out_get {H : Hp} {a : Addr} {b : Nat → Addr} {g : Nat} (h : Rd H a (.dK (outK b g))) {d : Nat} (h1 : 1 ≤ d) (h2 : d ≤ g) : DGet H a (.int (d : Int)) (some (.ref (b d))) := .inl ⟨outK b g, .inl (d : Int), h, rfl, by rw [outK_get h1 h2]⟩
theorem tup_tI {H H' : Hp} (s : ∀ b xs, H b = some (.tup xs) → H' b = some (.tup xs)) : ∀ {xs : List (List Int)} {vs : List V}, Iss H (xs.map tI) vs → Iss H' (xs.map tI) vs
  | [], _, h => by rw [of_nil h]; exact iss_nil
  | x :: xs, _, h => by
    obtain ⟨u, us, rfl, q, r⟩ := of_cons h
    obtain ⟨a, rfl, ha⟩ := of_tI q
    exact iss_cons (is_tI (s _ _ ha)) (tup_tI s r)
theorem dI_at {xs : List (Nat × Int)} {i : Nat} {k : Key} {v : V} (h : (dI xs)[i]? = some (k, v)) : ∃ x, xs[i]? = some x ∧ k = .inl (x.1 : Int) := by
  unfold dI at h
  rw [List.getElem?_map] at h
  obtain ⟨x, hx, e⟩ := Option.map_eq_some_iff.mp h
  cases e
  exact ⟨x, hx, rfl⟩
theorem dI_len (xs : List (Nat × Int)) : (dI xs).length = xs.length := by unfold dI; rw [List.length_map]

/-! the law's own sums -/
theorem sumN_shift (f : Nat → Int) : ∀ n : Nat, sumN f (n + 1) = f 0 + sumN (fun i => f (i + 1)) n
  | 0 => by show (0 : Int) + f 0 = f 0 + 0; omega
  | n + 1 => by
    show sumN f (n + 1) + f (n + 1) = f 0 + (sumN (fun i => f (i + 1)) n + f (n + 1))
    rw [sumN_shift f n]
    omega
theorem sumN_cut {f : Nat → Int} {m : Nat} : ∀ {n : Nat}, m ≤ n → (∀ i, m ≤ i → i < n → f i = 0) → sumN f n = sumN f m
  | 0, h, _ => by rw [show m = 0 by omega]
  | n + 1, h, z => by
    by_cases e : m = n + 1
    · rw [e]
    · show sumN f n + f n = _
      rw [z n (by omega) (by omega), sumN_cut (by omega) fun i h1 h2 => z i h1 (by omega)]
      omega
theorem cv_sum {f g : Nat → Int} {s : Nat} (h0 : f 0 = 0) (h81 : f 81 = 0) (hs : s ≤ 81) : cv f g s = sumN (fun j => f (j + 1) * g (s - (j + 1)) * chS s (j + 1)) s := by
  have inner : ∀ r, r < 81 → sumN (fun t => if r + t = s then f r * g t * chS s r else 0) 81 = if r ≤ s then f r * g (s - r) * chS s r else 0 := fun r hr => by
    by_cases e : r ≤ s
    · rw [if_pos e]
      by_cases hr0 : r = 0
      · subst hr0
        rw [sumN_zero fun i _ => by rw [h0]; simp, h0]
        simp
      · rw [sumN_congr (g := fun t => if t = s - r then f r * g (s - r) * chS s r else 0) fun t _ => by
          by_cases et : t = s - r
          · rw [if_pos et, if_pos (by omega), et]
          · rw [if_neg et, if_neg (by omega)]]
        exact sumN_one (by omega)
    · rw [if_neg e]
      exact sumN_zero fun t _ => if_neg (by omega)
  show sumN _ 81 = _
  rw [sumN_congr inner, show (81 : Nat) = 80 + 1 from rfl, sumN_shift, h0]
  have e1 : sumN (fun i => if i + 1 ≤ s then f (i + 1) * g (s - (i + 1)) * chS s (i + 1) else 0) 80 = sumN (fun i => if i + 1 ≤ s then f (i + 1) * g (s - (i + 1)) * chS s (i + 1) else 0) 81 := by
    show _ = sumN _ 80 + _
    have e : f (80 + 1) = 0 := h81
    dsimp only
    rw [e]
    split <;> simp
  rw [e1, sumN_cut (m := s) hs fun i h1 _ => if_neg (by omega)]
  rw [sumN_congr (g := fun j => f (j + 1) * g (s - (j + 1)) * chS s (j + 1)) fun i hi => if_pos (by omega)]
  split <;> simp
def chI : Bool := (List.range 81).all fun n => decide (cho (n : Int) (n : Int) = 1)
theorem chI_ok : chI = true := by decide +kernel
theorem chS_one {s : Nat} (h1 : 1 ≤ s) (h2 : s ≤ 81) : chS s s = 1 := by
  have h := chI_ok
  unfold chI at h
  rw [List.all_eq_true] at h
  have h := h (s - 1) (List.mem_range.mpr (by omega))
  have e1 : ((s - 1 : Nat) : Int) = (s : Int) - 1 := by omega
  rw [e1] at h
  exact of_decide_eq_true h
/-- what is left beside the whole through the first point -/
def rst (C : Nat → Nat → Int) (d s e r : Nat) : Int := if e = d then (if r = s then 1 else 0) else C (d - e) (s - r)
def lsE (W C : Nat → Nat → Int) (d s e m : Nat) : Int := sumN (fun j => W e (j + 1) * rst C d s e (j + 1) * chS s (j + 1)) m
def lsF (W C : Nat → Nat → Int) (d s : Nat) : Int := sumN (fun i => lsE W C d s (i + 1) s) d
theorem lsE_top {W C : Nat → Nat → Int} {d s : Nat} (h1 : 1 ≤ s) (h2 : s ≤ 81) : lsE W C d s d s = W d s := by
  unfold lsE
  obtain ⟨m, rfl⟩ : ∃ m, s = m + 1 := ⟨s - 1, by omega⟩
  rw [sumN_congr (g := fun j => if j = m then W d (m + 1) else 0) fun j hj => by
    unfold rst
    rw [if_pos rfl]
    by_cases e : j = m
    · rw [if_pos e, if_pos (by omega), e, chS_one h1 h2]; simp
    · rw [if_neg e, if_neg (by omega)]; simp]
  exact sumN_one (by omega)
theorem ls_below {W C : Nat → Nat → Int} {d s : Nat} (hd : 1 ≤ d) (h1 : 1 ≤ s) (h2 : s ≤ 81) (w0 : ∀ e, W e 0 = 0) (w81 : ∀ e, W e 81 = 0) : lsF W C d s = W d s + below (fun e => cv (W e) (C (d - e)) s) d := by
  obtain ⟨n, rfl⟩ : ∃ n, d = n + 1 := ⟨d - 1, by omega⟩
  show sumN _ n + lsE W C (n + 1) s (n + 1) s = _
  rw [lsE_top h1 h2]
  have : sumN (fun i => lsE W C (n + 1) s (i + 1) s) n = below (fun e => cv (W e) (C (n + 1 - e)) s) (n + 1) := sumN_congr fun i hi => by
    show _ = cv (W (i + 1)) (C (n + 1 - (i + 1))) s
    rw [cv_sum (w0 _) (w81 _) h2]
    unfold lsE
    exact sumN_congr fun j hj => by
      unfold rst
      rw [if_neg (by omega)]
  rw [this]
  omega
def cutF (g : Nat) (F : Nat → Nat → Int) : Nat → Nat → Int := fun d s => if d ≤ g then F d s else 0
theorem cutF_ok {q n g : Nat} {F : Nat → Nat → Int} (h : FOk q n F) : FOk q n (cutF g F) := fun d s hs => by
  unfold cutF at hs
  by_cases e : d ≤ g
  · rw [if_pos e] at hs; exact h d s hs
  · rw [if_neg e] at hs; exact absurd rfl hs
theorem FOk.up {q n m : Nat} {F : Nat → Nat → Int} (h : FOk q n F) (hm : n ≤ m) : FOk q m F := fun d s hs => by
  have := h d s hs
  omega
theorem FOk.zero {q n : Nat} {F : Nat → Nat → Int} (h : FOk q n F) {d s : Nat} (hs : s = 0 ∨ q * n < s) : F d s = 0 := Classical.byContradiction fun e => by
  obtain ⟨h1, h2, h3, h4⟩ := h d s e
  have : q * d ≤ q * n := Nat.mul_le_mul_left q h2
  omega
theorem Co.law {q n g : Nat} {F C : Nat → Nat → Int} (hF : FOk q n F) (hq : q * n ≤ 20) (h : Co g (cutF g F) C) {d s : Nat} (hd : 1 ≤ d) (hg : d ≤ g) (h1 : 1 ≤ s) (h2 : s ≤ 81) : C d s = lsF F C d s := by
  rw [ls_below hd h1 h2 (fun e => hF.zero (.inl rfl)) (fun e => hF.zero (.inr (by omega))), h, if_pos ⟨hd, hg⟩]
  have e1 : cutF g F d s = F d s := if_pos hg
  rw [e1]
  have : below (fun e => cv (cutF g F e) (C (d - e)) s) d = below (fun e => cv (F e) (C (d - e)) s) d := below_congr fun e e1 e2 => by
    have : cutF g F e = F e := by funext t; exact if_pos (by omega)
    rw [this]
  rw [this]
theorem Wh.law {q n g : Nat} {N W : Nat → Nat → Int} (hW : FOk q n W) (hq : q * n ≤ 20) (h : Wh g N W) {d s : Nat} (hd : 1 ≤ d) (hg : d ≤ g) (h1 : 1 ≤ s) (h2 : s ≤ 81) : N d s = lsF W N d s := by
  rw [ls_below hd h1 h2 (fun e => hW.zero (.inl rfl)) (fun e => hW.zero (.inr (by omega))), h, if_pos ⟨hd, hg⟩]
  omega
/-! the numbers of a table by degree and points -/
def keyN (r : List Int) : List Key := (r.take 2).map Sum.inl
def numK (xs : List (List Int)) : List (List Key × V) := xs.map fun r => (keyN r, .int (r.getD 2 0))
theorem numK_len (xs : List (List Int)) : (numK xs).length = xs.length := by unfold numK; rw [List.length_map]
theorem keyN_row {d s : Nat} {v : Int} : keyN (rowI d s v) = [.inl (d : Int), .inl (s : Int)] := rfl
theorem keyN_inj {d s d' s' : Nat} : ([.inl (d : Int), .inl (s : Int)] : List Key) = [.inl (d' : Int), .inl (s' : Int)] ↔ d = d' ∧ s = s' := by
  constructor
  · intro h
    injection h with h1 h2
    injection h2 with h2 _
    have h1 := Sum.inl.inj h1
    have h2 := Sum.inl.inj h2
    omega
  · rintro ⟨rfl, rfl⟩; rfl
theorem valV_numK {d s : Nat} : ∀ {xs : List (List Int)}, (∀ x ∈ xs, ∃ d s v, x = rowI d s v) → ∀ {v : Int}, rowI d s v ∈ xs → xs.Pairwise (fun a b => lexI false (a.take 2) (b.take 2) = true) → valV (numK xs) [.inl (d : Int), .inl (s : Int)] = some (.int v)
  | [], _, _, h, _ => nomatch h
  | x :: xs, hr, v, h, ha => by
    rw [List.pairwise_cons] at ha
    show ((numK (x :: xs)).find? fun kv => decide (kv.1 = [.inl (d : Int), .inl (s : Int)])).map (·.2) = _
    unfold numK
    rw [List.map_cons, List.find?_cons]
    rcases List.mem_cons.mp h with e | h2
    · subst e
      rw [decide_eq_true (keyN_row)]
      rfl
    · obtain ⟨d', s', v', rfl⟩ := hr x List.mem_cons_self
      have lt := lex_row.mp (ha.1 _ h2)
      rw [decide_eq_false (fun z => by
        have := keyN_inj.mp z
        omega)]
      exact valV_numK (fun y hy => hr y (List.mem_cons_of_mem _ hy)) h2 ha.2
theorem valV_numO {d s : Nat} : ∀ {xs : List (List Int)}, (∀ x ∈ xs, ∃ d s v, x = rowI d s v) → (∀ v, rowI d s v ∉ xs) → valV (numK xs) [.inl (d : Int), .inl (s : Int)] = none
  | [], _, _ => rfl
  | x :: xs, hr, h => by
    show ((numK (x :: xs)).find? fun kv => decide (kv.1 = [.inl (d : Int), .inl (s : Int)])).map (·.2) = _
    unfold numK
    rw [List.map_cons, List.find?_cons]
    obtain ⟨d', s', v', rfl⟩ := hr x List.mem_cons_self
    rw [decide_eq_false (fun z => by
      obtain ⟨rfl, rfl⟩ := keyN_inj.mp z
      exact h v' List.mem_cons_self)]
    exact valV_numO (fun y hy => hr y (List.mem_cons_of_mem _ hy)) fun v hv => h v (List.mem_cons_of_mem _ hv)
theorem canon_rows {q n : Nat} {F : Nat → Nat → Int} (hF : FOk q n F) : ∀ x ∈ canon q F n, ∃ d s v, x = rowI d s v := fun x hx => by
  obtain ⟨d, s, _, e⟩ := (canon_mem hF).mp hx
  exact ⟨d, s, _, e⟩
theorem num_val {q n : Nat} {F : Nat → Nat → Int} (hF : FOk q n F) (d s : Nat) : valV (numK (canon q F n)) [.inl (d : Int), .inl (s : Int)] = if F d s = 0 then none else some (.int (F d s)) := by
  by_cases e : F d s = 0
  · rw [if_pos e]
    refine valV_numO (canon_rows hF) fun v hv => ?_
    obtain ⟨d', s', h, er⟩ := (canon_mem hF).mp hv
    obtain ⟨rfl, rfl, _⟩ := rowI_inj er
    exact h e
  · rw [if_neg e]
    exact valV_numK (canon_rows hF) ((canon_mem hF).mpr ⟨d, s, e, rfl⟩) (canon_asc q n F)
theorem num_take {xs : List (List Int)} {i : Nat} {x : List Int} (h : xs[i]? = some x) : numK (xs.take (i + 1)) = numK (xs.take i) ++ [(keyN x, .int (x.getD 2 0))] := by
  unfold numK
  rw [List.take_add_one, h, List.map_append]
  rfl
theorem num_put {q n : Nat} {F : Nat → Nat → Int} (hF : FOk q n F) {i : Nat} {d s : Nat} {v : Int} (h : (canon q F n)[i]? = some (rowI d s v)) : putK (numK ((canon q F n).take i)) [.inl (d : Int), .inl (s : Int)] (.int v) = numK ((canon q F n).take (i + 1)) := by
  rw [num_take h, putK_new]
  · rfl
  · refine valV_numO (fun x hx => canon_rows hF x (List.mem_of_mem_take hx)) fun v' hv => ?_
    obtain ⟨j, hj, e⟩ := List.mem_iff_getElem.mp hv
    have hj' := hj
    rw [List.length_take] at hj'
    obtain ⟨hi, ei⟩ := List.getElem?_eq_some_iff.mp h
    rw [List.getElem_take] at e
    have lt := List.pairwise_iff_getElem.mp (canon_asc q n F) j i (by omega) hi (by omega)
    rw [e, ei] at lt
    have := lex_row.mp lt
    omega

/-! the promises -/
def spCell (K : PySem.W.Frag) : Sp := fun vs H Q _ => ∃ (a : Addr) (ns : List Int) (k : Int), vs = [.ref a, .int k] ∧ SqL K H a (ns.map V.int) ∧ 0 ≤ k ∧ ∀ z, Q (.int z) H
def sp_law (K : PySem.W.Frag) : Sp := fun vs H Q _ => ∃ (a : Addr) (ns : List Int), vs = [.ref a] ∧ SqL K H a (ns.map V.int) ∧ ns.length ≤ 63 ∧ ∀ H', Q (.bl true) H'
theorem bits60 {z : Int} (h0 : 0 < z) (h1 : z ≤ 10 ^ 60) : z ≠ 0 ∧ z.natAbs < 2 ^ 512 := by
  have : (10 : Nat) ^ 60 < 2 ^ 512 := by decide
  constructor <;> omega
def But (b : Addr) (H H' : Hp) : Prop := ∀ c o, H c = some o → c ≠ b → H' c = some o
theorem But.of_same {b : Addr} {H H' : Hp} (s : Same H H') : But b H H' := fun c o e _ => s _ _ e
theorem But.trans {b : Addr} {H H' H'' : Hp} (s : But b H H') (t : But b H' H'') : But b H H'' := fun c o e n => t c o (s c o e n) n
theorem But.upd {b : Addr} {H : Hp} {o : HO} : But b H (L2.upd H b o) := fun c u e n => by rw [upd_ne n]; exact e
theorem But.same {b : Addr} {H H1 H2 : Hp} (s : Same H H1) (nb : H b = none) (t : But b H1 H2) : Same H H2 := fun c o e => t c o (s c o e) (by rintro rfl; rw [nb] at e; cases e)
def spCh : Sp := fun vs H Q _ => ∃ n k : Int, vs = [.int n, .int k] ∧ 0 ≤ n ∧ n ≤ 100 ∧ Q (.int (cho n k)) H
def spGreat : Sp := fun vs H Q _ => ∃ x : Int, vs = [.int x] ∧ ∀ z, 0 ≤ z → Q (.int z) H
def spDig : Sp := fun vs H Q _ => ∃ (b : Addr) (m z : Int), vs = [.ref b, .int m] ∧ H b = some (.lst [.int z]) ∧ 0 ≤ z ∧ 0 < m ∧ m ≤ 10 ^ 60 ∧ ∀ y z', 0 ≤ y → y < m → 0 ≤ z' → Q (.int y) (upd H b (.lst [.int z']))
def spAdd : Sp := fun vs H Q _ => ∃ (t w c : Addr) (ts ws cs : List (Nat × Int)) (m k : Nat) (sg : Int), vs = [.ref t, .ref w, .ref c, .int sg] ∧ (sg = 1 ∨ sg = -1) ∧ H t = some (.dK (dI ts)) ∧ EntOk (m + k) ts ∧ Rd H w (.dK (dI ws)) ∧ EntOk m ws ∧ EntOk 20 ws ∧ Rd H c (.dK (dI cs)) ∧ EntOk k cs ∧ m + k ≤ 80 ∧ t ≠ w ∧ t ≠ c ∧ w ≠ c ∧ (∀ r s, CMul (vF ws r) (vF cs s)) ∧
  ∀ H' ts', H' t = some (.dK (dI ts')) → EntOk (m + k) ts' → (∀ s, vF ts' s = vF ts s + sg * cv (vF ws) (vF cs) s) → (∀ b, b ≠ t → Pz (H b) (H' b)) → (∀ b, b ≠ t → b ≠ w → b ≠ c → H' b = H b) → Q .non H'
def spBy : Sp := fun vs H Q _ => ∃ (v : V) (q n g : Nat) (F : Nat → Nat → Int), vs = [v, .int g] ∧ Is H (.l ((canon q F n).map tI)) v ∧ FOk q n F ∧ Sz q n ∧ g ≤ 4 ∧ ∀ a b X H', Same H H' → Tb q g H' a b X → (∀ d, 1 ≤ d → d ≤ g → EntOk (q * n) (X d)) → tabX g X = cutF g F → Q (.ref a) H'
def spTab : Sp := fun vs H Q _ => ∃ (a : Addr) (q n g : Nat) (b : Nat → Addr) (X : Nat → List (Nat × Int)), vs = [.ref a] ∧ Tb q g H a b X ∧ Sz q n ∧ g ≤ n ∧ ∀ l H', Fz H H' → H l = none → Is H' (.l ((canon q (tabX g X) n).map tI)) (.ref l) → Q (.ref l) H'
def WhOk (g : Nat) (N : Nat → Nat → Int) : Prop := ∀ i W, i ≤ g → Wh i N W → ∀ d e s t, CMul (W d s) (N e t)
def spWBy : Sp := fun vs H Q _ => ∃ (a : Addr) (q n g : Nat) (b : Nat → Addr) (X : Nat → List (Nat × Int)), vs = [.ref a] ∧ Tb q g H a b X ∧ Sz q n ∧ q * n ≤ 20 ∧ g ≤ n ∧ WhOk g (tabX g X) ∧ ∀ p b' X' H', Fz H H' → Tb q g H' p b' X' → Wh g (tabX g X) (tabX g X') → Q (.ref p) H'
def CoOk (g : Nat) (W : Nat → Nat → Int) : Prop := ∀ i C, i ≤ g → Co i W C → ∀ d e s t, CMul (W d s) (C e t)
def spCBy : Sp := fun vs H Q _ => ∃ (a : Addr) (q n g : Nat) (b : Nat → Addr) (X : Nat → List (Nat × Int)), vs = [.ref a] ∧ Tb q g H a b X ∧ Sz q n ∧ (∀ d, 1 ≤ d → d ≤ g → EntOk 20 (X d)) ∧ g ≤ n ∧ CoOk g (tabX g X) ∧ ∀ p b' X' H', Fz H H' → Tb q g H' p b' X' → Co g (tabX g X) (tabX g X') → Q (.ref p) H'
def grt (xss : List (List Int)) : Int := if (xss.map (·.getD 0 0)).length = 0 then 0 else maxL (xss.map (·.getD 0 0))
def spWOf : Sp := fun vs H Q _ => ∃ (v : V) (q n : Nat) (F : Nat → Nat → Int), vs = [v] ∧ Is H (.l ((canon q F n).map tI)) v ∧ Sz q n ∧ q * n ≤ 20 ∧ FOk q n F ∧ (∀ g : Nat, grt (canon q F n) = (g : Int) → WhOk g F) ∧ ∀ (l : Addr) (W : Nat → Nat → Int) (G : Nat) (H' : Hp), Fz H H' → H l = none → grt (canon q F n) = (G : Int) → (∀ d s, F d s ≠ 0 → d ≤ G) → Wh G F W → FOk q n W → Is H' (.l ((canon q W n).map tI)) (.ref l) → Q (.ref l) H'
def Bd64 (F : Nat → Nat → Int) : Prop := ∀ d s, -(2 ^ 64) < F d s ∧ F d s < 2 ^ 64
def spCOf (c : Addr) : Sp := fun vs H Q E => ∃ (v gv : V) (q n : Nat) (F : Nat → Nat → Int), vs = [v, gv] ∧ Is H (.l ((canon q F n).map tI)) v ∧ Sz q n ∧ q * n ≤ 20 ∧ FOk q n F ∧ Bd64 F ∧ Thing H gv ∧ (∀ g : Nat, gv = .int g → 1 ≤ g → g ≤ 4 → ∀ (l : Addr) (C : Nat → Nat → Int) (H' : Hp), Fz H H' → H l = none → Co g (cutF g F) C → FOk q 4 C → Is H' (.l ((canon q C 4).map tI)) (.ref l) → Q (.ref l) H') ∧ (¬ Within 1 4 gv → E (.ref c) none H)
theorem best_le (ns : List Int) : ∀ k, (argBest (fun i j => decide (ns.getD i 0 > ns.getD j 0)) k) ≤ k ∧ ∀ i, i ≤ k → ns.getD i 0 ≤ ns.getD (argBest (fun i j => decide (ns.getD i 0 > ns.getD j 0)) k) 0
  | 0 => ⟨Nat.le_refl _, fun i hi => by rw [show i = 0 by omega]; exact Int.le_refl _⟩
  | k + 1 => by
    obtain ⟨h1, h2⟩ := best_le ns k
    unfold argBest
    generalize argBest (fun i j => decide (ns.getD i 0 > ns.getD j 0)) k = m at h1 h2
    by_cases c : ns.getD (k + 1) 0 > ns.getD m 0
    · rw [if_pos (decide_eq_true c)]
      refine ⟨Nat.le_refl _, fun i hi => ?_⟩
      by_cases e : i = k + 1
      · rw [e]; exact Int.le_refl _
      · have := h2 i (by omega)
        omega
    · rw [if_neg (by rw [decide_eq_false c]; decide)]
      refine ⟨by omega, fun i hi => ?_⟩
      by_cases e : i = k + 1
      · rw [e]; omega
      · exact h2 i (by omega)
theorem maxL_ge {ns : List Int} {x : Int} (h : x ∈ ns) : x ≤ maxL ns := by
  obtain ⟨i, hi, rfl⟩ := List.mem_iff_getElem.mp h
  have := (best_le ns (ns.length - 1)).2 i (by omega)
  rw [List.getD_eq_getElem?_getD, List.getElem?_eq_getElem hi] at this
  exact this
theorem maxL_mem {ns : List Int} (h : 0 < ns.length) : maxL ns ∈ ns := by
  have h1 := (best_le ns (ns.length - 1)).1
  unfold maxL
  generalize argBest (fun i j => decide (ns.getD i 0 > ns.getD j 0)) (ns.length - 1) = m at h1
  rw [List.getD_eq_getElem?_getD, List.getElem?_eq_getElem (by omega)]
  exact List.getElem_mem _
theorem rd_one {H : Hp} {a : Addr} {x y : List (Key × V)} (h : Rd H a (.dK x)) (k : Rd H a (.dK y)) : x = y := by
  rcases h with h | ⟨o, h⟩ <;> rcases k with k | ⟨o', k⟩ <;> rw [h] at k <;> cases k <;> rfl
theorem out_ne {H : Hp} {a c : Addr} {b : Nat → Addr} {g : Nat} {xs : List (Nat × Int)} (h : Rd H a (.dK (outK b g))) (k : Rd H c (.dK (dI xs))) (hg : 1 ≤ g) : c ≠ a := by
  rintro rfl
  have e := rd_one h k
  have h0 : (outK b g)[0]? = some (.inl ((0 + 1 : Nat) : Int), .ref (b (0 + 1))) := outK_at (by omega)
  rw [e] at h0
  unfold dI at h0
  rw [List.getElem?_map] at h0
  obtain ⟨x, _, e⟩ := Option.map_eq_some_iff.mp h0
  exact V.noConfusion (congrArg Prod.snd e)
theorem get_val (xs : List (Nat × Int)) (k : Nat) : (valV (dI xs) (.inl (k : Int))).getD (.int 0) = .int (vF xs k) := by
  rw [dI_val]
  by_cases h : k ∈ xs.map (·.1)
  · rw [if_pos h]; rfl
  · rw [if_neg h, vF_out h]; rfl
theorem mem_keys {xs : List (Nat × Int)} {i : Nat} {x : Nat × Int} (h : xs[i]? = some x) : x.1 ∈ xs.map (·.1) := List.mem_map.mpr ⟨x, List.mem_of_getElem? h, rfl⟩
theorem SqL.fz {K : PySem.W.Frag} {H H' : Hp} (z : Fz H H') {a : Addr} {xs : List V} (h : SqL K H a xs) : SqL K H' a xs := by
  rcases h with (h | ⟨o, h⟩) | h
  · exact .inl (.inl (z.lts.1 _ _ h))
  · rcases z _ _ h with h2 | ⟨k, o2, h2 | ⟨o3, h2⟩, _⟩
    · exact .inl (.inr ⟨o, h2⟩)
    · cases h2
    · cases h2
  · exact .inr h
theorem rows_lts {H H' : Hp} (s : LTS H H') {xs : List (List Int)} {v : V} (h : Is H (.l (xs.map tI)) v) : Is H' (.l (xs.map tI)) v := by
  obtain ⟨a, vs, rfl, ha, hi⟩ := of_l h
  exact is_l (s.1 _ _ ha) (tup_tI s.2 hi)
def spRight : Sp := fun vs H Q _ => ∃ (v : V) (q n : Nat) (F : Nat → Nat → Int), vs = [v] ∧ Is H (.l ((canon q F n).map tI)) v ∧ Sz q n ∧ FOk q n F ∧ ∀ H', Same H H' → Q (.bl true) H'
def spSizes : Sp := fun vs H Q _ => ∃ (b : Addr) (z : Int), vs = [.ref b] ∧ H b = some (.lst [.int z]) ∧ 0 ≤ z ∧ ∀ (v : V) (n q : Nat) (B z' : Int) (H' : Hp), But b H H' → H' b = some (.lst [.int z']) → 0 ≤ z' → Is H' (tI [(n : Int), (q : Int), B]) v → q * n ≤ 20 → 1 ≤ n → n ≤ 4 → 1 ≤ B → B ≤ 10 ^ 12 → Q v H'
def spTable : Sp := fun vs H Q _ => ∃ (b : Addr) (z : Int) (v : V) (n q : Nat) (B : Int) (sg : Bool), vs = [.ref b, v, .bl sg] ∧ H b = some (.lst [.int z]) ∧ 0 ≤ z ∧ Is H (tI [(n : Int), (q : Int), B]) v ∧ q * n ≤ 20 ∧ 1 ≤ n ∧ n ≤ 4 ∧ 1 ≤ B ∧ B ≤ 10 ^ 12 ∧ ∀ (l : Addr) (F : Nat → Nat → Int) (H' : Hp), But b H H' → H l = none → FOk q n F → Bd64 F → (sg = false → ∀ d s, 0 ≤ F d s) → Is H' (.l ((canon q F n).map tI)) (.ref l) → Q (.ref l) H'
def spOdd : Sp := fun vs H Q _ => ∃ x : Int, vs = [.int x] ∧ ∀ v H', Same H H' → Thing H' v → ¬ Within 1 4 v → Q v H'
def spBt (c : Addr) : Sp := fun vs H Q E => ∃ v lo hi, vs = [v, .int lo, .int hi] ∧ Thing H v ∧ (Within lo hi v → Q .non H) ∧ (¬ Within lo hi v → (0 ≤ lo ∧ lo ≤ 20 ∧ 0 ≤ hi ∧ hi ≤ 20) ∧ E (.ref c) none H)
theorem say_ok : ∀ a, a < 21 → ∀ b, b < 21 → (decide (((a : Nat) : Int).natAbs.log2 < 1920) && decide ((Str.empty ++ Str.ofString "not a whole number from ").length ≤ sizeLine) && decide ((Str.empty ++ Str.ofString "not a whole number from " ++ Str.ofString (toString ((a : Nat) : Int))).length ≤ sizeLine) && decide ((Str.empty ++ Str.ofString "not a whole number from " ++ Str.ofString (toString ((a : Nat) : Int)) ++ Str.ofString " to ").length ≤ sizeLine) && decide ((Str.empty ++ Str.ofString "not a whole number from " ++ Str.ofString (toString ((a : Nat) : Int)) ++ Str.ofString " to " ++ Str.ofString (toString ((b : Nat) : Int))).length ≤ sizeLine)) = true := by decide +kernel
def spRf : Sp := fun vs H Q _ => ∃ (v gv : V) (q n : Nat) (F : Nat → Nat → Int), vs = [v, gv] ∧ Is H (.l ((canon q F n).map tI)) v ∧ Sz q n ∧ q * n ≤ 20 ∧ FOk q n F ∧ Bd64 F ∧ Thing H gv ∧ ¬ Within 1 4 gv ∧ ∀ H', Same H H' → Q (.bl true) H'
def spNum : Sp := fun vs H Q _ => ∃ (v : V) (q n : Nat) (F : Nat → Nat → Int), vs = [v] ∧ Is H (.l ((canon q F n).map tI)) v ∧ Sz q n ∧ FOk q n F ∧ ∀ (a : Addr) (H' : Hp), H a = none → Same H H' → H' a = some (.dT (numK (canon q F n))) → Q (.ref a) H'
def DV (H : Hp) (a : Addr) (F : Nat → Nat → Int) : Prop := ∃ kvs, Rd H a (.dT kvs) ∧ ∀ d s : Nat, valV kvs [.inl (d : Int), .inl (s : Int)] = if F d s = 0 then none else some (.int (F d s))
def spSum : Sp := fun vs H Q _ => ∃ (w c : Addr) (W C : Nat → Nat → Int) (d s : Nat), vs = [.ref w, .ref c, .int d, .int s] ∧ DV H w W ∧ DV H c C ∧ 1 ≤ d ∧ d ≤ 4 ∧ 1 ≤ s ∧ s ≤ 81 ∧ (∀ e r, W e r ≠ 0 → r ≤ 20) ∧ (∀ e r e' r', CMul (W e r) (C e' r')) ∧ ∀ H', Same H H' → Q (.int (lsF W C d s)) H'
def spHold : Sp := fun vs H Q _ => ∃ (w c : Addr) (W C : Nat → Nat → Int) (q n m g : Nat), vs = [.ref w, .ref c, .int g, .int q] ∧ H w = some (.dT (numK (canon q W n))) ∧ H c = some (.dT (numK (canon q C m))) ∧ Sz q n ∧ Sz q m ∧ FOk q n W ∧ FOk q m C ∧ q ≤ 20 ∧ g ≤ 4 ∧ (∀ e r, W e r ≠ 0 → r ≤ 20) ∧ (∀ e r e' r', CMul (W e r) (C e' r')) ∧ (∀ d s, 1 ≤ d → d ≤ g → 1 ≤ s → s ≤ 81 → C d s = lsF W C d s) ∧ ∀ H', Same H H' → Q (.bl true) H'
theorem lt_two {K : PySem.W.Frag} {H : Hp} {a b c e : Int} {v w : V} (h : Is H (tI [a, b]) v) (k : Is H (tI [c, e]) w) (hlt : a < c ∨ a = c ∧ b < e) : LtR K H 1 v w true := by
  obtain ⟨p, rfl, hp⟩ := of_tI h
  obtain ⟨r, rfl, hr⟩ := of_tI k
  have le := LtR.tuples (K := K) (H := H) (d := 0) (a := p) (b := r) (fun j => if j = 0 then decide (a = c) else decide (b = e)) (fun j => if j = 0 then decide (a < c) else decide (b < e)) (SqT.of hp) (SqT.of hr) (fun j x y hx hy => ?_) (fun j x y hx hy _ => ?_)
  · have e2 : SeqAt.lex (fun j => if j = 0 then decide (a = c) else decide (b = e)) (fun j => if j = 0 then decide (a < c) else decide (b < e)) 2 2 2 0 = true := by
      rcases hlt with h | ⟨h1, h2⟩
      · have : ¬ a = c := by omega
        simp [SeqAt.lex, this, h]
      · have : ¬ b = e := by omega
        simp [SeqAt.lex, h1, this, h2]
    exact e2 ▸ le
  · match j, hx, hy with
    | 0, hx, hy => cases hx; cases hy; exact EqR.int 0 _ _
    | 1, hx, hy => cases hx; cases hy; exact EqR.int 0 _ _
    | j + 2, hx, _ => simp at hx
  · match j, hx, hy with
    | 0, hx, hy => cases hx; cases hy; exact LtR.int 0 _ _
    | 1, hx, hy => cases hx; cases hy; exact LtR.int 0 _ _
    | j + 2, hx, _ => simp at hx
theorem op_ltSK {X : Cx} {K : PySem.W.Frag} {k : Nat} (h : X.K = K) (hr : Room k X.A) : OpR X (compareOp .Lt) (rLtS K) := h ▸ op_ltS hr
theorem cut_two {vs : List V} : cutV vs none (some (2 : Int)) = vs.take 2 := by
  show cutV vs none (some ((2 : Nat) : Int)) = _
  unfold cutV
  rw [HT.sIx_nat, HT.sIx_none, List.drop_zero, Nat.sub_zero]
  exact List.take_eq_take_iff.mpr (by omega)
theorem at_row {q n : Nat} {F : Nat → Nat → Int} {i : Nat} (h : i < (canon q F n).length) : atI ((canon q F n).map tI) (i : Int) = some (tI (canon q F n)[i]) := atI_nat (by rw [List.getElem?_map, List.getElem?_eq_getElem h]; rfl)
/-- a table that is drawn -/
def TI (H : Hp) (b l : Addr) (q : Nat) (B : Int) (sg : Bool) (i j : Nat) (H2 : Hp) : Prop := But b H H2 ∧ (∃ z, H2 b = some (.lst [.int z]) ∧ 0 ≤ z) ∧ ∃ vs xs, H2 l = some (.lst vs) ∧ Iss H2 (xs.map tI) vs ∧ Asc xs ∧ xs.length ≤ q * i + j ∧ ∀ x ∈ xs, ∃ d s v, x = rowI d s v ∧ v ≠ 0 ∧ -B ≤ v ∧ v ≤ B ∧ 1 ≤ d ∧ 1 ≤ s ∧ s ≤ q ∧ (d ≤ i ∨ d = i + 1 ∧ s ≤ j) ∧ (sg = false → 0 ≤ v)
theorem TI.dig {H H2 : Hp} {b l : Addr} {q : Nat} {B : Int} {sg : Bool} {i j : Nat} (h : TI H b l q B sg i j H2) (lb : l ≠ b) {z : Int} (z0 : 0 ≤ z) : TI H b l q B sg i j (upd H2 b (.lst [.int z])) := by
  obtain ⟨h1, ⟨z', h2, _⟩, vs, xs, h3, h4, h5⟩ := h
  refine ⟨h1.trans But.upd, ⟨z, upd_same, z0⟩, vs, xs, by rw [upd_ne lb]; exact h3, tup_tI (fun c ys e => ?_) h4, h5⟩
  rw [upd_ne (by rintro rfl; rw [h2] at e; cases e)]
  exact e
theorem TI.skip {H H2 : Hp} {b l : Addr} {q : Nat} {B : Int} {sg : Bool} {i j : Nat} (h : TI H b l q B sg i j H2) : TI H b l q B sg i (j + 1) H2 := by
  obtain ⟨h1, h2, vs, xs, h3, h4, h5, h6, h7⟩ := h
  refine ⟨h1, h2, vs, xs, h3, h4, h5, by omega, fun x hx => ?_⟩
  obtain ⟨d, s, v, e, a1, a2, a3, a4, a5, a6, a7, a8⟩ := h7 x hx
  exact ⟨d, s, v, e, a1, a2, a3, a4, a5, a6, by omega, a8⟩
theorem TI.next {H H2 : Hp} {b l : Addr} {q : Nat} {B : Int} {sg : Bool} {i : Nat} (h : TI H b l q B sg i q H2) : TI H b l q B sg (i + 1) 0 H2 := by
  obtain ⟨h1, h2, vs, xs, h3, h4, h5, h6, h7⟩ := h
  refine ⟨h1, h2, vs, xs, h3, h4, h5, by rw [Nat.mul_succ]; omega, fun x hx => ?_⟩
  obtain ⟨d, s, v, e, a1, a2, a3, a4, a5, a6, a7, a8⟩ := h7 x hx
  exact ⟨d, s, v, e, a1, a2, a3, a4, a5, a6, by omega, a8⟩
theorem TI.add {H H2 H3 : Hp} {b l t : Addr} {q : Nat} {B : Int} {sg : Bool} {i j : Nat} (h : TI H b l q B sg i j H2) (nl : H l = none) (lb : l ≠ b) (nt : H2 t = none) (s3 : Same H2 H3) {v : Int} (ht : H3 t = some (.tup [.int ((i + 1 : Nat) : Int), .int ((j + 1 : Nat) : Int), .int v])) (hj : j < q) (hv : v ≠ 0 ∧ -B ≤ v ∧ v ≤ B ∧ (sg = false → 0 ≤ v)) :
    ∃ vs, H3 l = some (.lst vs) ∧ vs.length ≤ q * i + j ∧ TI H b l q B sg i (j + 1) (upd H3 l (.lst (vs ++ [.ref t]))) := by
  obtain ⟨h1, ⟨z, h2, z0⟩, vs, xs, h3, h4, h5, h6, h7⟩ := h
  have e1 := h4.length
  rw [List.length_map] at e1
  have tl : t ≠ l := by rintro rfl; rw [h3] at nt; cases nt
  refine ⟨vs, s3 _ _ h3, by omega, fun c o e n => ?_, ⟨z, by rw [upd_ne (Ne.symm lb)]; exact s3 _ _ h2, z0⟩, _, xs ++ [rowI (i + 1) (j + 1) v], upd_same, ?_, ?_, ?_, ?_⟩
  · rw [upd_ne (by rintro rfl; rw [nl] at e; cases e)]
    exact s3 _ _ (h1 c o e n)
  · rw [List.map_append]
    refine Iss.append (tup_tI (fun c ys e => ?_) h4) (iss_cons (is_tI (by rw [upd_ne tl]; exact ht)) iss_nil)
    rw [upd_ne (by rintro rfl; rw [h3] at e; cases e)]
    exact s3 _ _ e
  · refine List.pairwise_append.mpr ⟨h5, List.pairwise_singleton _ _, fun x hx y hy => ?_⟩
    rw [List.mem_singleton.mp hy]
    obtain ⟨d, s, v', rfl, a1, a2, a3, a4, a5, a6, a7, a8⟩ := h7 x hx
    exact lex_row.mpr (by omega)
  · rw [List.length_append, List.length_singleton]; omega
  · intro x hx
    rcases List.mem_append.mp hx with hx | hx
    · obtain ⟨d, s, v, e, a1, a2, a3, a4, a5, a6, a7, a8⟩ := h7 x hx
      exact ⟨d, s, v, e, a1, a2, a3, a4, a5, a6, by omega, a8⟩
    · exact ⟨i + 1, j + 1, v, List.mem_singleton.mp hx, hv.1, hv.2.1, hv.2.2.1, by omega, by omega, by omega, by omega, hv.2.2.2⟩
theorem TI.done {H H2 : Hp} {b l : Addr} {q n : Nat} {B : Int} {sg : Bool} (h : TI H b l q B sg n 0 H2) (hB1 : 1 ≤ B) (hB : B ≤ 10 ^ 12) : ∃ F, But b H H2 ∧ FOk q n F ∧ Bd64 F ∧ (sg = false → ∀ d s, 0 ≤ F d s) ∧ Is H2 (.l ((canon q F n).map tI)) (.ref l) := by
  obtain ⟨h1, h2, vs, xs, h3, h4, h5, h6, h7⟩ := h
  obtain ⟨F, f1, f2, f3⟩ := rows_tab (q := q) (n := n) (B := B) h5 (fun x hx => by
    obtain ⟨d, s, v, e, a1, a2, a3, a4, a5, a6, a7, a8⟩ := h7 x hx
    have : q * 1 ≤ q * d := Nat.mul_le_mul_left q a4
    exact ⟨d, s, v, e, a1, a2, a3, a4, by omega, a5, by omega⟩) (by omega)
  refine ⟨F, h1, f1, fun d s => ?_, fun hs d s => ?_, ?_⟩
  · have := (f3 d s).1
    constructor <;> omega
  · by_cases e : F d s = 0
    · omega
    · obtain ⟨d', s', v, e2, _, _, _, _, _, _, _, a8⟩ := h7 _ ((f3 d s).2 e)
      rw [(rowI_inj e2).2.2]
      exact a8 hs
  · rw [← f2]
    exact is_l h3 h4
section
variable {P : Program} {w : World} {K : PySem.W.Frag} {mg : Str → Option Value} {base : Heap} (T : Fns K mg)
theorem ok__law_cell_at : OKQ T.X__law_cell_at P w base 1 (spCell K) := by
  refine FbO T.X__law_cell_at sc__law_cell_at fun _ _ _ _ H vs Q E hr h => ?_
  obtain ⟨a, ns, k, rfl, hS, h0, kk⟩ := h
  refine ⟨_, (pss_cons (ps_if (pt_cmpR op_lt (pv 1) (pe_callB call_len_seq (by rfl) T.n_len boot_len (pa_cons (pv 0) pa_nil)) (nomark _)) (pss_one (ps_ret (pe_ix ix_list (pv 0) (pv 1) (fun _ _ => rfl)))) pss_nil)
    (pss_one (ps_ret pe_int))), ?_⟩
  refine ⟨_, rfl, _, rfl, a, _, rfl, .inl hS, _, _, rfl, rfl, _, rfl, ?_⟩
  refine iteD (fun h => ?_) (fun _ => kk 0)
  rw [List.length_map] at h
  have hk : k.toNat < ns.length := by omega
  refine ⟨_, rfl, _, rfl, a, _, k, .int ns[k.toNat], rfl, rfl, hS, ?_, kk _⟩
  have e : ((k.toNat : Nat) : Int) = k := by omega
  have := atI_nat (xs := ns.map V.int) (j := k.toNat) (v := .int ns[k.toNat]) (by simp [hk])
  rw [e] at this
  exact this
theorem ok__law_great : OKQ T.X__law_great P w base 1 spGreat := by
  refine FbO T.X__law_great sc__law_great fun _ _ _ _ H vs Q E hr h => ?_
  obtain ⟨x, rfl, kk⟩ := h
  refine ⟨_, (pss_cons (ps_if (pt_cmpR op_ge (pv 0) (pe_op op_pow pe_int pe_int) (nomark _)) (pss_one (ps_ret (pe_op op_sub (pv 0) (pe_op op_pow pe_int pe_int)))) pss_nil)
    (pss_cons (ps_if (pt_cmpR op_le (pv 0) (pe_op op_sub pe_int (pe_op op_pow pe_int pe_int)) (nomark _)) (pss_one (ps_ret (pe_op op_sub (pe_op op_sub pe_int (pv 0)) (pe_op op_pow pe_int pe_int)))) pss_nil)
    (pss_cons (pSA (i := 1) sc__law_great.nd (pe_op op_add (pe_op op_mod (pv 0) pe_int) pe_int))
    (pss_cons (pSA (i := 2) sc__law_great.nd pe_int)
    (pss_cons (ps_for PassesOwn.never rfl (pi_range1 (by rfl) T.n_range (pa_cons pe_int pa_nil)) (pGA (i := 3) sc__law_great.nd) (pss_cons (pSA (i := 1) sc__law_great.nd (pe_op op_mod (pe_op op_add (pe_op op_add (pe_op op_add (pe_op op_mul (pv 1) pe_int) (pe_op op_mul (pe_op op_mul pe_int (pv 3)) (pv 3))) (pe_op op_fdiv (pv 1) pe_int)) pe_int) pe_int))
    (pss_one (pSA (i := 2) sc__law_great.nd (pe_op op_add (pe_op op_mul (pv 2) pe_int) (pe_op op_mod (pe_op op_mul (pv 1) pe_int) pe_int))))))
    (pss_one (ps_ret (pv 2)))))))), ?_⟩
  have e18 : (10 : Int) ^ (18 : Int).toNat = 10 ^ 18 := rfl
  refine ⟨_, rfl, 10, 18, rfl, rfl, ⟨by decide, by decide, by decide⟩, _, _, rfl, rfl, _, rfl, iteD (fun h => ?_) (fun h => ?_)⟩
  · exact ⟨_, rfl, 10, 18, rfl, rfl, ⟨by decide, by decide, by decide⟩, _, _, rfl, rfl, kk _ (by omega)⟩
  · refine ⟨_, rfl, 10, 18, rfl, rfl, ⟨by decide, by decide, by decide⟩, _, _, rfl, rfl, _, _, rfl, rfl, _, rfl, iteD (fun h2 => ?_) (fun h2 => ?_)⟩
    · exact ⟨_, rfl, _, _, rfl, rfl, 10, 18, rfl, rfl, ⟨by decide, by decide, by decide⟩, _, _, rfl, rfl, kk _ (by omega)⟩
    · refine ⟨_, rfl, _, _, rfl, rfl, (show (0 : Int) < 2147483629 by decide), _, _, rfl, rfl, ?_⟩
      refine ⟨8, rfl, by decide, by decide, for_range (n := 8) (fun i σ H2 => (∃ (y f : Int) (v3 : Option V), σ = [some (.int x), some (.int y), some (.int f), v3] ∧ 0 ≤ y ∧ 0 ≤ f) ∧ H2 = H) ⟨⟨_, 0, none, rfl, by omega, by decide⟩, rfl⟩ ?_ ?_⟩
      · rintro i σ H2 hi ⟨⟨y, f, v3, rfl, y0, f0⟩, rfl⟩
        refine ⟨_, rfl, _, _, rfl, rfl, .inr ⟨by decide, by decide⟩, _, rfl, _, _, rfl, rfl, .inl ⟨by decide, by decide⟩, _, rfl, _, _, rfl, rfl, .inr ⟨by omega, by omega⟩, _, _, rfl, rfl, _, rfl, _, _, rfl, rfl, ⟨by decide, by decide⟩, _, _, rfl, rfl, _, _, rfl, rfl, _, _, rfl, rfl, (show (0 : Int) < 2147483647 by decide), ?_⟩
        refine ⟨_, rfl, _, _, rfl, rfl, .inr ⟨by decide, by decide⟩, _, rfl, _, _, rfl, rfl, .inr ⟨by decide, by decide⟩, _, _, rfl, rfl, (show (0 : Int) < 2147483629 by decide), _, _, rfl, rfl, ?_⟩
        exact ⟨⟨_, _, _, rfl, Int.emod_nonneg _ (by decide), Int.add_nonneg (Int.mul_nonneg f0 (by decide)) (Int.emod_nonneg _ (by decide))⟩, rfl⟩
      · rintro σ H2 ⟨⟨y, f, v3, rfl, y0, f0⟩, rfl⟩
        exact ⟨_, rfl, kk _ f0⟩
theorem ok__law_digit : OKQ T.X__law_digit P w base 1 spDig := by
  refine FbO T.X__law_digit sc__law_digit fun _ _ _ _ H vs Q E hr h => ?_
  obtain ⟨b, m, z, rfl, hb, z0, m0, m1, kk⟩ := h
  refine ⟨_, (pss_cons (pSA (i := 2) sc__law_digit.nd (pe_op op_mod (pe_ix ix_list (pv 0) pe_int (fun _ _ => rfl)) (pv 1)))
    (pss_cons (ps_asg (pe_op op_fdivB (pe_ix ix_list (pv 0) pe_int (fun _ _ => rfl)) (pv 1)) (pg_sub (pv 0) pe_int set_list))
    (pss_one (ps_ret (pv 2))))), ?_⟩
  refine ⟨_, rfl, b, _, _, _, rfl, rfl, SqL.of hb, by rfl, _, rfl, _, _, rfl, rfl, m0, ?_⟩
  refine ⟨_, rfl, b, _, _, _, rfl, rfl, SqL.of hb, by rfl, _, rfl, _, _, rfl, rfl, bits60 m0 m1, _, rfl, b, _, _, 0, rfl, rfl, hb, by rfl, ?_⟩
  exact ⟨_, rfl, kk _ _ (Int.emod_nonneg _ (by omega)) (Int.emod_lt_of_pos _ m0) (Int.fdiv_nonneg z0 (by omega))⟩
theorem ok_choose : OKQ T.X_choose P w base 1 spCh := by
  refine FbO T.X_choose sc_choose fun _ _ _ _ H vs Q E hr h => ?_
  obtain ⟨n, k, rfl, n0, n1, kk⟩ := h
  refine ⟨_, (pss_cons (ps_if (pw_or (pt_cmpR op_lt (pv 1) pe_int (nomark _)) (pw_or1 (pt_cmpR op_gt (pv 1) (pv 0) (nomark _)))).pt (pss_one (ps_ret pe_int)) pss_nil)
    (pss_cons (pSA (i := 2) sc_choose.nd pe_int)
    (pss_cons (ps_for PassesOwn.never rfl (pi_range1 (by rfl) T.n_range (pa_cons (pv 1) pa_nil)) (pGA (i := 3) sc_choose.nd) (pss_one (pSA (i := 2) sc_choose.nd (pe_op op_fdiv (pe_op op_mul (pv 2) (pe_op op_sub (pv 0) (pv 3))) (pe_op op_add (pv 3) pe_int)))))
    (pss_one (ps_ret (pv 2)))))), ?_⟩
  refine ⟨_, rfl, _, _, rfl, rfl, _, rfl, iteD (fun h => iteT ?_) (fun h => ?_)⟩
  · rw [show cho n k = 0 from if_pos (.inl h)] at kk
    exact kk
  · refine ⟨_, rfl, _, rfl, _, _, rfl, rfl, _, rfl, iteD (fun h2 => ?_) (fun h2 => ?_)⟩
    · rw [show cho n k = 0 from if_pos (.inr h2)] at kk
      exact kk
    · rw [show cho n k = chF n k.toNat from if_neg (by omega)] at kk
      refine ⟨_, rfl, _, rfl, by omega, by omega, for_range (n := k.toNat) (fun i σ H2 => (∃ v3, σ = [some (.int n), some (.int k), some (.int (chF n i)), v3]) ∧ H2 = H) ⟨⟨none, rfl⟩, rfl⟩ ?_ ?_⟩
      · rintro i σ H2 hi ⟨⟨v3, rfl⟩, rfl⟩
        exact ⟨_, rfl, _, rfl, _, rfl, _, _, rfl, rfl, _, _, rfl, rfl, .inr ⟨by omega, by omega⟩, _, rfl, _, _, rfl, rfl, _, _, rfl, rfl, ⟨by omega, by omega⟩, ⟨_, rfl⟩, rfl⟩
      · rintro σ H2 ⟨⟨v3, rfl⟩, rfl⟩
        exact ⟨_, rfl, kk⟩
theorem ok__law_choose : OKQ T.X__law_choose P w base 1 spCh := by
  refine FbO T.X__law_choose sc__law_choose fun _ _ _ _ H vs Q E hr h => ?_
  obtain ⟨n, k, rfl, n0, n1, kk⟩ := h
  refine ⟨_, (pss_cons (ps_if (pw_or (pt_cmpR op_lt (pv 1) pe_int (nomark _)) (pw_or1 (pt_cmpR op_gt (pv 1) (pv 0) (nomark _)))).pt (pss_one (ps_ret pe_int)) pss_nil)
    (pss_cons (pSA (i := 2) sc__law_choose.nd pe_int)
    (pss_cons (ps_for PassesOwn.never rfl (pi_range1 (by rfl) T.n_range (pa_cons (pv 1) pa_nil)) (pGA (i := 3) sc__law_choose.nd) (pss_one (pSA (i := 2) sc__law_choose.nd (pe_op op_fdiv (pe_op op_mul (pv 2) (pe_op op_sub (pv 0) (pv 3))) (pe_op op_add (pv 3) pe_int)))))
    (pss_one (ps_ret (pv 2)))))), ?_⟩
  refine ⟨_, rfl, _, _, rfl, rfl, _, rfl, iteD (fun h => iteT ?_) (fun h => ?_)⟩
  · rw [show cho n k = 0 from if_pos (.inl h)] at kk
    exact kk
  · refine ⟨_, rfl, _, rfl, _, _, rfl, rfl, _, rfl, iteD (fun h2 => ?_) (fun h2 => ?_)⟩
    · rw [show cho n k = 0 from if_pos (.inr h2)] at kk
      exact kk
    · rw [show cho n k = chF n k.toNat from if_neg (by omega)] at kk
      refine ⟨_, rfl, _, rfl, by omega, by omega, for_range (n := k.toNat) (fun i σ H2 => (∃ v3, σ = [some (.int n), some (.int k), some (.int (chF n i)), v3]) ∧ H2 = H) ⟨⟨none, rfl⟩, rfl⟩ ?_ ?_⟩
      · rintro i σ H2 hi ⟨⟨v3, rfl⟩, rfl⟩
        exact ⟨_, rfl, _, rfl, _, rfl, _, _, rfl, rfl, _, _, rfl, rfl, .inr ⟨by omega, by omega⟩, _, rfl, _, _, rfl, rfl, _, _, rfl, rfl, ⟨by omega, by omega⟩, ⟨_, rfl⟩, rfl⟩
      · rintro σ H2 ⟨⟨v3, rfl⟩, rfl⟩
        exact ⟨_, rfl, kk⟩
theorem ok_is_whole : OKQ T.X_is_whole P w base 1 sp_whole := by
  refine FbO T.X_is_whole sc_is_whole fun _ _ _ _ H vs Q E hr h => ?_
  obtain ⟨v, rfl, ht, kk⟩ := h
  refine ⟨_, (pss_one (ps_ret (pe_and (pe_callB call_isi (by rfl) T.n_isinstance boot_isinstance (pa_cons (pv 0) (pa_cons (pe_bltn (v := .ty "int") (by rfl) T.n_int boot_int (by rfl)) pa_nil))) (pe_one (pe_not (pe_callB call_isi (by rfl) T.n_isinstance boot_isinstance (pa_cons (pv 0) (pa_cons (pe_bltn (v := .ty "bool") (by rfl) T.n_bool boot_bool (by rfl)) pa_nil)))))))), ?_⟩
  rcases ht with ⟨i, rfl⟩ | ⟨b, rfl⟩ | rfl | ⟨x, rfl⟩ | ⟨a, xs, rfl, ha⟩ | ⟨a, xs, rfl, ha⟩
  · exact ⟨_, rfl, _, "int", _, true, rfl, .int i, kit_same, true, rfl, iteT ⟨_, rfl, _, "bool", _, false, rfl, .int i, kit_int_bool, false, rfl, kk⟩⟩
  · exact ⟨_, rfl, _, "int", _, true, rfl, .bl b, kit_bool_int, true, rfl, iteT ⟨_, rfl, _, "bool", _, true, rfl, .bl b, kit_same, true, rfl, kk⟩⟩
  · exact ⟨_, rfl, _, "int", _, false, rfl, .non, kit_none_int, false, rfl, iteF kk⟩
  · exact ⟨_, rfl, _, "int", _, false, rfl, .str x, kit_str_int, false, rfl, iteF kk⟩
  · exact ⟨_, rfl, _, "int", _, false, rfl, .lst ha, kit_list_int, false, rfl, iteF kk⟩
  · exact ⟨_, rfl, _, "int", _, false, rfl, .tup ha, kit_tuple_int, false, rfl, iteF kk⟩
theorem ok_need_between : FnOk P w K mg base (CX1 P w) 2 T.f_need_between T.d_need_between ["thing", "least", "greatest"] (spBt T.c_NoBound) := by
  refine T.X_need_between.F.okx sc_need_between (fun vs H Q E h => ?_) (fun cdv A outer s H vs Q E hr h hR hp => ?_)
  · obtain ⟨_, _, _, rfl, _⟩ := h
    rfl
  · obtain ⟨v, lo, hi, rfl, ht, kk, ke⟩ := h
    refine ⟨_, (pss_one (ps_if (pw_or (pt_not (pt_val (pcq (ok_is_whole T) hr T.X_is_whole (pa_cons (pv 0) pa_nil)))) (pw_or (pt_cmpR op_lt (pv 0) (pv 1) (nomark _)) (pw_or1 (pt_cmpR op_gt (pv 0) (pv 2) (nomark _))))).pt (pss_one (ps_raise hR (by rfl) T.m_NoBound T.x_NoBound rfl (pa_cons (pe_fstr (pj_cons pe_str (pj_cons (pe_fint (pv 1)) (pj_cons pe_str (pj_cons (pe_fint (pv 2)) pj_nil))))) pa_nil))) pss_nil)), ?_⟩
    have no : ¬ Within lo hi v → ∀ D : Ends, tRaise T.c_NoBound E (tCons (fun σ H Q => tJc (tC (.str "not a whole number from ")) (tJc (fun σ H Q => tVar 1 σ H fun x H1 => ∃ i, x = .int i ∧ i.natAbs.log2 < 1920 ∧ Q (.str (toString i)) H1) (tJc (tC (.str " to ")) (tJc (fun σ H Q => tVar 2 σ H fun x H1 => ∃ i, x = .int i ∧ i.natAbs.log2 < 1920 ∧ Q (.str (toString i)) H1) tJn)))
        Str.empty σ H Q) tNil) D [some v, some (.int lo), some (.int hi)] H := fun hn D => by
      obtain ⟨⟨l1, l2, l3, l4⟩, he⟩ := ke hn
      obtain ⟨a, rfl⟩ := Int.eq_ofNat_of_zero_le l1
      obtain ⟨b, rfl⟩ := Int.eq_ofNat_of_zero_le l3
      have y := say_ok a (by omega) b (by omega)
      have z := say_ok b (by omega) a (by omega)
      simp only [Bool.and_eq_true, decide_eq_true_eq] at y z
      obtain ⟨⟨⟨⟨y1, y2⟩, y3⟩, y4⟩, y5⟩ := y
      exact ⟨_, rfl, y2, _, rfl, _, rfl, y1, _, rfl, y3, _, rfl, y4, _, rfl, _, rfl, z.1.1.1.1, _, rfl, y5, y5, (zB rfl), he⟩
    refine ⟨v, rfl, v, rfl, ht, isI v, rfl, ?_⟩
    cases hv : isI v with
    | false => exact iteT (iteT (no (fun hw => by rw [within_int hw] at hv; cases hv) _))
    | true =>
      obtain ⟨i, rfl⟩ : ∃ i, v = .int i := by
        cases v <;> first | exact ⟨_, rfl⟩ | cases hv
      refine iteF ⟨_, rfl, _, rfl, i, lo, rfl, rfl, _, rfl, iteD (fun hl => ?_) (fun hl => ?_)⟩
      · exact iteT (no (fun ⟨j, e, h1, h2⟩ => by cases e; omega) _)
      · refine ⟨_, rfl, _, rfl, i, hi, rfl, rfl, _, rfl, iteD (fun hg => ?_) (fun hg => ?_)⟩
        · exact no (fun ⟨j, e, h1, h2⟩ => by cases e; omega) _
        · exact kk ⟨i, rfl, by omega, by omega⟩
theorem ok__law_odd : OKQ T.X__law_odd P w base 10 spOdd := by
  refine FbO T.X__law_odd sc__law_odd fun _ _ _ _ H vs Q E hr h => ?_
  obtain ⟨x, rfl, kk⟩ := h
  refine ⟨_, (pss_cons (pSA (i := 1) sc__law_odd.nd (pe_lstN (pa_cons (pcq (ok__law_great T) hr T.X__law_great (pa_cons (pv 0) pa_nil)) pa_nil)))
    (pss_cons (pSA (i := 2) sc__law_odd.nd (pcq (ok__law_digit T) hr T.X__law_digit (pa_cons (pv 1) (pa_cons pe_int pa_nil))))
    (pss_cons (pSA (i := 3) sc__law_odd.nd (pcq (ok__law_digit T) hr T.X__law_digit (pa_cons (pv 1) (pa_cons (pe_ix ix_list (pe_lstN (pa_cons pe_int (pa_cons (pe_op op_pow pe_int pe_int) pa_nil))) (pcq (ok__law_digit T) hr T.X__law_digit (pa_cons (pv 1) (pa_cons pe_int pa_nil))) (fun _ _ => rfl)) pa_nil))))
    (pss_cons (ps_if (pt_cmpR op_eq (pv 2) pe_int (nomark _)) (pss_one (ps_ret (pe_op op_add pe_int (pv 3)))) pss_nil)
    (pss_cons (ps_if (pt_cmpR op_eq (pv 2) pe_int (nomark _)) (pss_one (ps_ret (pe_op op_sub pe_int (pv 3)))) pss_nil)
    (pss_one (ps_ret (pe_ix ix_list (pe_lstN (pa_cons pe_non (pa_cons pe_bl (pa_cons pe_bl (pa_cons pe_str (pa_cons (pe_lstN (pa_cons pe_int pa_nil)) (pa_cons (pe_tupN (pa_cons pe_int pa_nil)) pa_nil))))))) (pe_op op_sub (pv 2) pe_int) (fun _ _ => rfl))))))))), ?_⟩
  refine ⟨_, rfl, x, rfl, fun z z0 => ⟨(zB rfl), fun b H1 nb s1 hb => ?_⟩⟩
  refine ⟨_, rfl, b, 8, z, rfl, hb, z0, by decide, by decide, fun wy z1 w0 w1 z10 => ?_⟩
  have hb1 : upd H1 b (.lst [.int z1]) b = some (.lst [.int z1]) := upd_same
  have s01 : Same H (upd H1 b (.lst [.int z1])) := s1.put nb
  generalize upd H1 b (.lst [.int z1]) = H2 at hb1 s01 ⊢
  refine ⟨_, rfl, 10, 30, rfl, rfl, ⟨by decide, by decide, by decide⟩, (zB rfl), fun q H3 nq s3 hq => ?_⟩
  refine ⟨_, rfl, b, 2, z1, rfl, s3 _ _ hb1, z10, by decide, by decide, fun c z2 c0 c1 z20 => ?_⟩
  have qb : q ≠ b := by rintro rfl; rw [hb1] at nq; cases nq
  have hq4 : upd H3 b (.lst [.int z2]) q = some (.lst [.int 3, .int (10 ^ (30 : Int).toNat)]) := by rw [upd_ne qb]; exact hq
  have hb4 : upd H3 b (.lst [.int z2]) b = some (.lst [.int z2]) := upd_same
  have s04 : Same H (upd H3 b (.lst [.int z2])) := (s01.trans s3).put nb
  generalize upd H3 b (.lst [.int z2]) = H4 at hq4 hb4 s04 ⊢
  obtain ⟨m, hm, m0, m1⟩ : ∃ m : Int, atI [V.int 3, .int (10 ^ (30 : Int).toNat)] c = some (.int m) ∧ 0 < m ∧ m ≤ 10 ^ 60 := by
    rcases (show c = 0 ∨ c = 1 by omega) with rfl | rfl
    · exact ⟨3, rfl, by decide, by decide⟩
    · exact ⟨_, rfl, by decide, by decide⟩
  refine ⟨q, _, c, .int m, rfl, rfl, SqL.of hq4, hm, b, m, z2, rfl, hb4, z20, m0, m1, fun far z3 f0 f1 z30 => ?_⟩
  have s05 : Same H (upd H4 b (.lst [.int z3])) := s04.put nb
  generalize upd H4 b (.lst [.int z3]) = H5 at s05 ⊢
  refine ⟨_, rfl, rfl, _, rfl, iteE (fun e => ?_) (fun e => ?_)⟩
  · exact ⟨_, rfl, _, _, rfl, rfl, kk _ H5 s05 (.inl ⟨_, rfl⟩) (fun ⟨i, ei, _, h4⟩ => by have := V.int.inj ei; omega)⟩
  refine ⟨_, rfl, rfl, _, rfl, iteE (fun e2 => ?_) (fun e2 => ?_)⟩
  · exact ⟨_, rfl, _, _, rfl, rfl, kk _ H5 s05 (.inl ⟨_, rfl⟩) (fun ⟨i, ei, h1, _⟩ => by have := V.int.inj ei; omega)⟩
  refine ⟨(zB rfl), fun q5 H6 n6 s6 h6 => ⟨(zB rfl), fun q6 H7 n7 s7 h7 => ⟨(zB rfl), fun q7 H8 n8 s8 h8 => ?_⟩⟩⟩
  have h6' := s8 _ _ (s7 _ _ h6)
  have h7' := s8 _ _ h7
  obtain ⟨v, hv, tv, nw⟩ : ∃ v, atI [V.non, .bl true, .bl false, .str (Str.ofString "3"), .ref q5, .ref q6] (wy - 2) = some v ∧ Thing H8 v ∧ ¬ Within 1 4 v := by
    rcases (show wy = 2 ∨ wy = 3 ∨ wy = 4 ∨ wy = 5 ∨ wy = 6 ∨ wy = 7 by omega) with rfl | rfl | rfl | rfl | rfl | rfl
    · exact ⟨_, rfl, .inr (.inr (.inl rfl)), fun ⟨i, e, _⟩ => nomatch e⟩
    · exact ⟨_, rfl, .inr (.inl ⟨_, rfl⟩), fun ⟨i, e, _⟩ => nomatch e⟩
    · exact ⟨_, rfl, .inr (.inl ⟨_, rfl⟩), fun ⟨i, e, _⟩ => nomatch e⟩
    · exact ⟨_, rfl, .inr (.inr (.inr (.inl ⟨_, rfl⟩))), fun ⟨i, e, _⟩ => nomatch e⟩
    · exact ⟨_, rfl, .inr (.inr (.inr (.inr (.inl ⟨_, _, rfl, h6'⟩)))), fun ⟨i, e, _⟩ => nomatch e⟩
    · exact ⟨_, rfl, .inr (.inr (.inr (.inr (.inr ⟨_, _, rfl, h7'⟩)))), fun ⟨i, e, _⟩ => nomatch e⟩
  exact ⟨_, rfl, _, _, rfl, rfl, q7, _, _, v, rfl, rfl, SqL.of h8, hv, kk v H8 (((s05.trans s6).trans s7).trans s8) tv nw⟩
theorem ok_add_products : OKQ T.X_add_products P w base 2 spAdd := by
  refine FbO T.X_add_products sc_add_products fun cdv A outer s H vs Q E hr h => ?_
  obtain ⟨t, wa, c, ts, ws, cs, m, k, sg, rfl, hsg, ht, ots, hw, ows, ol, hc, ocs, hmk, tw, tc, wc, hb, kk⟩ := h
  refine ⟨_, (pss_one (ps_for PassesOwn.never rfl (pi_dictI (pv 1)) (pGA (i := 4) sc_add_products.nd) (pss_one (ps_for PassesOwn.never rfl (pi_dictI (pv 2)) (pGA (i := 5) sc_add_products.nd) (pss_cons (pSA (i := 6) sc_add_products.nd (pe_op op_add (pv 4) (pv 5)))
    (pss_cons (pSA (i := 7) sc_add_products.nd (pe_op op_mul (pe_op op_mul (pe_dget (hu_of hr) (pv 1) (pv 4) (fun _ _ => rfl)) (pe_dget (hu_of hr) (pv 2) (pv 5) (fun _ _ => rfl))) (pcq (ok_choose T) hr T.X_choose (pa_cons (pe_op op_sub (pv 6) pe_int) (pa_cons (pe_op op_sub (pv 4) pe_int) pa_nil)))))
    (pss_one (ps_dput (hu_of hr) (pv 0) (pv 6) (pe_op op_add (pe_dget2 (hu_of hr) (pv 0) (pv 6) pe_int ⟨rfl, rfl, rfl, rfl⟩) (pe_op op_mul (pv 3) (pv 7))) rfl)))))))), ?_⟩
  refine ⟨_, rfl, wa, dI ws, rfl, hw, fun o H1 hw1 k1 => ?_⟩
  refine for_dictI (fun j σ H2 => (∃ v4 v5 v6 v7, σ = [some (.ref t), some (.ref wa), some (.ref c), some (.int sg), v4, v5, v6, v7]) ∧ H2 wa = some (.frz o (.dK (dI ws))) ∧ Pz (H c) (H2 c) ∧ (∃ ts', H2 t = some (.dK (dI ts')) ∧ EntOk (m + k) ts' ∧ ∀ s, vF ts' s = vF ts s + sg * prds (ws.take j) cs s) ∧ ∀ b, b ≠ t → b ≠ wa → b ≠ c → H2 b = H b) ⟨⟨none, none, none, none, rfl⟩, hw1, Pz.of_eq (k1 c (Ne.symm wc)), ⟨ts, by rw [k1 t tw]; exact ht, ots, fun s => by simp [prds]⟩, fun b _ h2 _ => k1 b h2⟩ (fun j σ H2 _ h => h.2.1) ?_ ?_
  · rintro j ky vv σ H2 hj ⟨⟨v4, v5, v6, v7, rfl⟩, hw2, hc2, ⟨tsj, ht2, ot2, hv2⟩, same2⟩
    obtain ⟨x, hx, rfl⟩ := dI_at hj
    obtain ⟨x1, x2⟩ := ows.2 x (List.mem_of_getElem? hx)
    have vx : vF ws x.1 = x.2 := vF_of ows.1 (List.mem_of_getElem? hx)
    refine ⟨_, rfl, c, dI cs, rfl, Pz.rd hc2 hc, fun o2 H3 hc3 k3 => ?_⟩
    refine for_dictI (fun i σ H4 => (∃ v5 v6 v7, σ = [some (.ref t), some (.ref wa), some (.ref c), some (.int sg), some (.int (x.1 : Int)), v5, v6, v7]) ∧ H4 wa = some (.frz o (.dK (dI ws))) ∧ H4 c = some (.frz o2 (.dK (dI cs))) ∧ (∃ ts', H4 t = some (.dK (dI ts')) ∧ EntOk (m + k) ts' ∧ ∀ s, vF ts' s = vF tsj s + sg * prd x (cs.take i) s) ∧ ∀ b, b ≠ t → b ≠ wa → b ≠ c → H4 b = H b) ⟨⟨_, _, _, rfl⟩, by rw [k3 wa wc]; exact hw2, hc3, ⟨tsj, by rw [k3 t tc]; exact ht2, ot2, fun s => by simp [prd]⟩, fun b b1 b2 b3 => by rw [k3 b b3]; exact same2 b b1 b2 b3⟩ (fun i σ H4 _ h => h.2.2.1) ?_ ?_
    · rintro i ky2 vv2 σ H4 hi ⟨⟨v5, v6, v7, rfl⟩, hw4, hc4, ⟨tsi, ht4, ot4, hv4⟩, same4⟩
      obtain ⟨y, hy, rfl⟩ := dI_at hi
      obtain ⟨y1, y2⟩ := ocs.2 y (List.mem_of_getElem? hy)
      have vy : vF cs y.1 = y.2 := vF_of ocs.1 (List.mem_of_getElem? hy)
      have es : (x.1 : Int) + (y.1 : Int) = ((x.1 + y.1 : Nat) : Int) := by omega
      obtain ⟨c0, c1⟩ := chS_ok (s := x.1 + y.1) (r := x.1) (by omega) (by omega) (by omega) (ol.2 x (List.mem_of_getElem? hx)).2
      refine ⟨_, rfl, _, rfl, _, _, rfl, rfl, ?_⟩
      refine ⟨_, rfl, _, rfl, wa, .int (vF ws x.1), rfl, dI_get (.inr ⟨o, hw4⟩) (mem_keys hx), _, rfl, _, rfl, c, .int (vF cs y.1), rfl, dI_get (.inr ⟨o2, hc4⟩) (mem_keys hy), _, _, rfl, rfl, hb _ _, _, rfl, _, _, rfl, rfl, _, rfl, _, _, rfl, rfl, ?_⟩
      refine ⟨(x.1 : Int) + (y.1 : Int) - 1, (x.1 : Int) - 1, rfl, by omega, by omega, _, _, rfl, rfl, .inr ?_, ?_⟩
      · rw [es]
        exact ⟨Int.lt_of_lt_of_le (by decide) c0, Int.lt_trans c1 (by decide)⟩
      refine ⟨_, rfl, t, rfl, .inl ⟨_, .inl ht4⟩, _, rfl, valV (dI tsi) (.inl ((x.1 + y.1 : Nat) : Int)), DGet.k (k := .inl ((x.1 + y.1 : Nat) : Int)) ht4, ?_⟩
      rw [get_val]
      refine ⟨_, rfl, _, rfl, _, _, rfl, rfl, .inl (by rcases hsg with e | e <;> rw [e] <;> decide), _, _, rfl, rfl, _, rfl, _, rfl, t, _, rfl, DPut.k (k := .inl ((x.1 + y.1 : Nat) : Int)) ht4 ?_, ?_⟩
      · rw [dI_len]
        have := ot4.len
        exact small1000 (by omega)
      rw [dI_put]
      refine ⟨⟨_, _, _, rfl⟩, by rw [upd_ne (Ne.symm tw)]; exact hw4, by rw [upd_ne (Ne.symm tc)]; exact hc4, ⟨_, upd_same, ot4.put (by omega) (by omega), fun s => ?_⟩, fun b b1 b2 b3 => by rw [upd_ne b1]; exact same4 b b1 b2 b3⟩
      rw [vF_put, prd_add hy]
      by_cases e : s = x.1 + y.1
      · subst e
        rw [if_pos rfl, if_pos rfl, hv4, vx, vy, Int.mul_add, Int.add_assoc]
        unfold chS
        rw [es]
      · rw [if_neg e, if_neg (Ne.symm e), hv4]
        simp
    · rintro σ H4 ⟨⟨v5, v6, v7, rfl⟩, hw4, hc4, ⟨tsi, ht4, ot4, hv4⟩, same4⟩
      rw [dI_len, List.take_length] at hv4
      refine ⟨⟨_, _, _, _, rfl⟩, hw4, Pz.frz hc hc4, ⟨tsi, ht4, ot4, fun s => ?_⟩, same4⟩
      rw [hv4, hv2, prds_add hx, Int.mul_add, Int.add_assoc]
  · rintro σ H2 ⟨⟨v4, v5, v6, v7, rfl⟩, hw2, hc2, ⟨ts2, ht2, ot2, hv2⟩, same2⟩
    refine kk H2 ts2 ht2 ot2 (fun s => ?_) (fun b bt => ?_) same2
    · rw [hv2, dI_len, List.take_length, prds_cv ows ocs (by omega) (by omega)]
    · by_cases e1 : b = wa
      · rw [e1]; exact Pz.frz hw hw2
      · by_cases e2 : b = c
        · rw [e2]; exact hc2
        · exact Pz.of_eq (same2 b bt e1 e2)
theorem tk_mem {xs : List (List Int)} {j : Nat} {x r : List Int} (h : xs[j]? = some x) : r ∈ xs.take (j + 1) ↔ r ∈ xs.take j ∨ r = x := by
  rw [List.take_add_one, h, List.mem_append]
  simp
theorem ok_by_degree : OKQ T.X_by_degree P w base 1 spBy := by
  refine FbO T.X_by_degree sc_by_degree fun cdv A outer s H vs Q E hr h => ?_
  obtain ⟨v, q, n, g, F, rfl, hv, hF, hq, hg4, kk⟩ := h
  refine ⟨_, (pss_cons (pSA (i := 2) sc_by_degree.nd pe_dnewK)
    (pss_cons (ps_for PassesOwn.never rfl (pi_range2 (by rfl) T.n_range (pa_cons pe_int (pa_cons (pe_op op_add (pv 1) pe_int) pa_nil))) (pGA (i := 3) sc_by_degree.nd) (pss_one (ps_dput (hu_of hr) (pv 2) (pv 3) pe_dnewK rfl)))
    (pss_cons (ps_for PassesOwn.never rfl (pi_list (pv 0)) (pg_tup rfl (pgs_cons (pGA (i := 3) sc_by_degree.nd) (pgs_cons (pGA (i := 4) sc_by_degree.nd) (pgs_cons (pGA (i := 5) sc_by_degree.nd) pgs_nil)))) (pss_one (ps_if (pt_cmpR op_le (pv 3) (pv 1) (nomark _)) (pss_one (ps_dput (hu_of hr) (pe_dget (hu_of hr) (pv 2) (pv 3) (fun _ _ => rfl)) (pv 4) (pv 5) rfl)) pss_nil)))
    (pss_one (ps_ret (pv 2)))))), ?_⟩
  obtain ⟨la, lvs, rfl, hla, hli⟩ := of_l hv
  have llen : lvs.length = (canon q F n).length := by rw [hli.length, List.length_map]
  have hn4 := hq.2.2
  refine fun f nf => ⟨_, rfl, _, _, rfl, rfl, 1, _, rfl, ⟨by decide, by decide, by omega, by omega⟩, ?_⟩
  rw [show ((g : Int) + 1 - 1).toNat = g by omega]
  refine for_range (lo := 1) (n := g) (fun i σ H2 => (∃ v3 v4 v5, σ = [some (.ref la), some (.int g), some (.ref f), v3, v4, v5]) ∧ Same H H2 ∧ ∃ b : Nat → Addr, H2 f = some (.dK (outK b i)) ∧ (∀ d, 1 ≤ d → d ≤ i → H2 (b d) = some (.dK (dI [])) ∧ H (b d) = none ∧ b d ≠ f) ∧ ∀ d e, 1 ≤ d → d ≤ i → 1 ≤ e → e ≤ i → b d = b e → d = e) ⟨⟨none, none, none, rfl⟩, Same.new nf, fun _ => f, upd_same, fun d h1 h2 => absurd h1 (by omega), fun d e h1 h2 => absurd h1 (by omega)⟩ ?_ ?_
  · rintro i σ H2 hi ⟨⟨v3, v4, v5, rfl⟩, s2, b, hf, hb, inj⟩
    rw [show (1 : Int) + (i : Int) = ((i + 1 : Nat) : Int) by omega]
    refine fun p np => ?_
    have pf : f ≠ p := by rintro rfl; rw [hf] at np; cases np
    have pb : ∀ d, 1 ≤ d → d ≤ i → b d ≠ p := fun d h1 h2 e => by rw [← e, (hb d h1 h2).1] at np; cases np
    refine ⟨_, rfl, _, rfl, f, _, rfl, DPut.k (H := upd H2 p (.dK [])) (kvs := outK b i) (k := .inl ((i + 1 : Nat) : Int)) (by rw [upd_ne pf]; exact hf) ?_, ?_⟩
    · rw [outK_len]
      exact small1000 (by omega)
    rw [outK_put]
    refine ⟨⟨_, _, _, rfl⟩, (s2.trans (Same.new np)).put nf, _, upd_same, fun d h1 h2 => ?_, fun d e h1 h2 h3 h4 h5 => ?_⟩
    · by_cases e : d = i + 1
      · rw [if_pos e, upd_ne (Ne.symm pf), upd_same]
        exact ⟨rfl, s2.free np, Ne.symm pf⟩
      · obtain ⟨b1, b2, b3⟩ := hb d h1 (by omega)
        rw [if_neg e, upd_ne b3, upd_ne (pb d h1 (by omega))]
        exact ⟨b1, b2, b3⟩
    · by_cases e1 : d = i + 1
      · by_cases e2 : e = i + 1
        · omega
        · rw [if_pos e1, if_neg e2] at h5
          exact absurd h5.symm (pb e h3 (by omega))
      · by_cases e2 : e = i + 1
        · rw [if_neg e1, if_pos e2] at h5
          exact absurd h5 (pb d h1 (by omega))
        · rw [if_neg e1, if_neg e2] at h5
          exact inj d e h1 (by omega) h3 (by omega) h5
  · rintro σ H2 ⟨⟨v3, v4, v5, rfl⟩, s2, b, hf, hb, inj⟩
    refine ⟨_, rfl, la, rfl, ⟨_, SqL.of (s2 _ _ hla)⟩, for_list (xs := lvs) (fun j σ H3 => (∃ v3 v4 v5, σ = [some (.ref la), some (.int g), some (.ref f), v3, v4, v5]) ∧ Same H H3 ∧ H3 f = some (.dK (outK b g)) ∧ ∃ X : Nat → List (Nat × Int), ∀ d, 1 ≤ d → d ≤ g → H3 (b d) = some (.dK (dI (X d))) ∧ EntOk (q * d) (X d) ∧ EntOk (q * n) (X d) ∧ ∀ s, vF (X d) s = if rowI d s (F d s) ∈ (canon q F n).take j then F d s else 0) ⟨⟨_, _, _, rfl⟩, s2, hf, fun _ => [], fun d h1 h2 => ⟨(hb d h1 h2).1, EntOk.nil _, EntOk.nil _, fun s => by simp [vF]⟩⟩ (fun j σ H3 _ h => SqL.of (h.2.1 _ _ hla)) ?_ ?_⟩
    · rintro j y σ H3 hj ⟨⟨v3, v4, v5, rfl⟩, s3, hf3, X, hX⟩
      obtain ⟨r, hr', hy⟩ := issM hli hj
      obtain ⟨d, s, hne, rfl⟩ := (canon_mem hF).mp (List.mem_of_getElem? hr')
      obtain ⟨d1, dn, s1, sq⟩ := hF d s hne
      obtain ⟨ya, rfl, hya⟩ := of_tI hy
      refine ⟨ya, _, rfl, SqT.of (s3 _ _ hya), rfl, _, _, rfl, _, _, rfl, _, _, rfl, rfl, ?_⟩
      refine ⟨_, rfl, _, rfl, _, _, rfl, rfl, _, rfl, iteD (fun c => ?_) (fun c => ?_)⟩
      rotate_left 1
      · refine ⟨⟨_, _, _, rfl⟩, s3, hf3, X, fun e e1 eg => ?_⟩
        obtain ⟨y1, y2, yq, y3⟩ := hX e e1 eg
        refine ⟨y1, y2, yq, fun s' => ?_⟩
        rw [y3]
        by_cases hm : rowI e s' (F e s') ∈ (canon q F n).take j
        · rw [if_pos hm, if_pos ((tk_mem hr').mpr (.inl hm))]
        · rw [if_neg hm, if_neg fun z => ((tk_mem hr').mp z).elim hm fun z => by have := (rowI_inj z).1; omega]
      have dg : d ≤ g := by omega
      obtain ⟨x1, x2, xq, x3⟩ := hX d d1 dg
      refine ⟨_, rfl, _, rfl, _, rfl, f, .ref (b d), rfl, out_get (.inl hf3) d1 dg, _, rfl, b d, _, rfl, DPut.k (k := .inl (s : Int)) x1 ?_, ?_⟩
      · rw [dI_len]
        have := x2.len
        have := hq.le dn
        exact small1000 (by omega)
      rw [dI_put]
      refine ⟨⟨_, _, _, rfl⟩, s3.put (hb d d1 dg).2.1, by rw [upd_ne (Ne.symm (hb d d1 dg).2.2)]; exact hf3, fun e => if e = d then putN (X d) s (F d s) else X e, fun e e1 eg => ?_⟩
      by_cases ed : e = d
      · subst ed
        dsimp only
        rw [if_pos rfl]
        refine ⟨upd_same, x2.put s1 sq, xq.put s1 (Nat.le_trans sq (Nat.mul_le_mul_left q dn)), fun s' => ?_⟩
        rw [vF_put]
        by_cases es : s' = s
        · subst es
          rw [if_pos rfl, if_pos ((tk_mem hr').mpr (.inr rfl))]
        · rw [if_neg es, x3]
          by_cases hm : rowI e s' (F e s') ∈ (canon q F n).take j
          · rw [if_pos hm, if_pos ((tk_mem hr').mpr (.inl hm))]
          · rw [if_neg hm, if_neg fun z => ((tk_mem hr').mp z).elim hm fun z => es (rowI_inj z).2.1]
      · obtain ⟨y1, y2, yq, y3⟩ := hX e e1 eg
        dsimp only
        rw [if_neg ed, upd_ne fun z => ed (inj e d e1 eg d1 dg z)]
        refine ⟨y1, y2, yq, fun s' => ?_⟩
        rw [y3]
        by_cases hm : rowI e s' (F e s') ∈ (canon q F n).take j
        · rw [if_pos hm, if_pos ((tk_mem hr').mpr (.inl hm))]
        · rw [if_neg hm, if_neg fun z => ((tk_mem hr').mp z).elim hm fun z => ed (rowI_inj z).1]
    · rintro σ H3 ⟨⟨v3, v4, v5, rfl⟩, s3, hf3, X, hX⟩
      refine ⟨_, rfl, kk f b X H3 s3 ⟨.inl hf3, fun d h1 h2 => ⟨.inl (hX d h1 h2).1, (hX d h1 h2).2.1⟩⟩ (fun d h1 h2 => (hX d h1 h2).2.2.1) ?_⟩
      funext d s
      unfold tabX cutF
      by_cases hd : 1 ≤ d ∧ d ≤ g
      · rw [if_pos hd, if_pos hd.2, (hX d hd.1 hd.2).2.2.2 s, llen, List.take_length]
        by_cases e : F d s = 0
        · rw [e]; split <;> rfl
        · rw [if_pos ((canon_mem hF).mpr ⟨d, s, e, rfl⟩)]
      · rw [if_neg hd]
        by_cases hg : d ≤ g
        · rw [if_pos hg]
          exact (Classical.byContradiction fun e => hd ⟨(hF d s (Ne.symm e)).1, hg⟩)
        · rw [if_neg hg]
theorem fnd_pre (X : Nat → List (Nat × Int)) {g i j : Nat} (h : i + 1 ≤ g) : (fnd X i ++ entR (i + 1) ((X (i + 1)).take j)).length ≤ (fnd X g).length := by
  have e1 : ∀ g, i + 1 ≤ g → (fnd X (i + 1)).length ≤ (fnd X g).length := by
    intro g hg
    induction g with
    | zero => omega
    | succ g ih =>
      by_cases e : i + 1 = g + 1
      · rw [e]; exact Nat.le_refl _
      · rw [fnd_add X g, List.length_append]
        have := ih (by omega)
        omega
  have e2 := e1 g h
  rw [fnd_add, List.length_append] at e2
  have e3 : entR (i + 1) (X (i + 1)) = entR (i + 1) ((X (i + 1)).take j) ++ entR (i + 1) ((X (i + 1)).drop j) := by
    unfold entR
    rw [← List.flatMap_append, List.take_append_drop]
  rw [e3, List.length_append] at e2
  rw [List.length_append]
  omega
theorem ok_as_table : OKQ T.X_as_table P w base 1 spTab := by
  refine FbO T.X_as_table sc_as_table fun cdv A outer s H vs Q E hr h => ?_
  obtain ⟨a, q, n, g, b, X, rfl, hT, hq, hgn, kk⟩ := h
  refine ⟨_, (pss_cons (pSA (i := 1) sc_as_table.nd (pe_lstN pa_nil))
    (pss_cons (ps_for PassesOwn.never rfl (pi_dictI (pv 0)) (pGA (i := 2) sc_as_table.nd) (pss_one (ps_for PassesOwn.never rfl (pi_dictI (pe_dget (hu_of hr) (pv 0) (pv 2) (fun _ _ => rfl))) (pGA (i := 3) sc_as_table.nd) (pss_one (ps_if (pt_cmpR op_ne (pe_dget (hu_of hr) (pe_dget (hu_of hr) (pv 0) (pv 2) (fun _ _ => rfl)) (pv 3) (fun _ _ => rfl)) pe_int (nomark _)) (pss_one (ps_expr (pe_bm PySem.F.plainAttrs_list PySem.F.slot_list_append PySem.F.type_list_append mt_append (pv 1) (pa_cons (pe_tupN (pa_cons (pv 2) (pa_cons (pv 3) (pa_cons (pe_dget (hu_of hr) (pe_dget (hu_of hr) (pv 0) (pv 2) (fun _ _ => rfl)) (pv 3) (fun _ _ => rfl)) pa_nil)))) pa_nil)))) pss_nil)))))
    (pss_one (ps_ret (pe_callB call_sortW (by rfl) T.n_sorted boot_sorted (pa_cons (pv 1) pa_nil)))))), ?_⟩
  have nd : ∀ d, 1 ≤ d → d ≤ g → ((X d).map (·.1)).Nodup := fun d h1 h2 => (hT.2 d h1 h2).2.1
  have hF : FOk q n (tabX g X) := fun d s h => by
    unfold tabX at h
    by_cases hd : 1 ≤ d ∧ d ≤ g
    · rw [if_pos hd] at h
      have := (hT.2 d hd.1 hd.2).2.val h
      exact ⟨hd.1, by omega, this⟩
    · rw [if_neg hd] at h
      exact absurd rfl h
  have hlen := fnd_len hq hF nd
  refine ⟨Nat.zero_le _, fun l H1 nl s1 hl => ?_⟩
  have T1 := hT.fz (Fz.of_same s1)
  refine ⟨_, rfl, a, outK b g, rfl, T1.1, fun o H2 ha2 k2 => ?_⟩
  have z2 := Fz.walk T1.1 ha2 k2
  refine for_dictI (fun i σ H3 => (∃ v2 v3, σ = [some (.ref a), some (.ref l), v2, v3]) ∧ H3 a = some (.frz o (.dK (outK b g))) ∧ Fz H H3 ∧ ∃ vs, H3 l = some (.lst vs) ∧ Iss H3 ((fnd X i).map tI) vs) ⟨⟨none, none, rfl⟩, ha2, (Fz.of_same s1).trans z2, [], z2.lts.1 _ _ hl, iss_nil⟩ (fun i σ H3 _ h => h.2.1) ?_ ?_
  · rintro i ky vv σ H3 hi ⟨⟨v2, v3, rfl⟩, ha3, z3, vs, hl3, hi3⟩
    have hig : i < g := by
      have := (List.getElem?_eq_some_iff.mp hi).1
      rwa [outK_len] at this
    rw [outK_at hig] at hi
    cases hi
    have T3 := hT.fz z3
    obtain ⟨tb, te⟩ := T3.2 (i + 1) (by omega) (by omega)
    have ba : b (i + 1) ≠ a := out_ne T3.1 tb (by omega)
    refine ⟨_, rfl, _, rfl, a, .ref (b (i + 1)), rfl, out_get (.inr ⟨o, ha3⟩) (by omega) (by omega), b (i + 1), dI (X (i + 1)), rfl, tb, fun o2 H4 hb4 k4 => ?_⟩
    have z4 := Fz.walk tb hb4 k4
    refine for_dictI (fun j σ H5 => (∃ v3, σ = [some (.ref a), some (.ref l), some (.int ((i + 1 : Nat) : Int)), v3]) ∧ H5 (b (i + 1)) = some (.frz o2 (.dK (dI (X (i + 1))))) ∧ H5 a = some (.frz o (.dK (outK b g))) ∧ Fz H H5 ∧ ∃ vs, H5 l = some (.lst vs) ∧ Iss H5 ((fnd X i ++ entR (i + 1) ((X (i + 1)).take j)).map tI) vs) ⟨⟨_, rfl⟩, hb4, by rw [k4 a (Ne.symm ba)]; exact ha3, z3.trans z4, vs, z4.lts.1 _ _ hl3, by simpa [entR] using tup_tI z4.lts.2 hi3⟩ (fun j σ H5 _ h => h.2.1) ?_ ?_
    · rintro j ky vv σ H5 hj ⟨⟨v3, rfl⟩, hb5, ha5, z5, vs, hl5, hi5⟩
      obtain ⟨x, hx, rfl⟩ := dI_at hj
      have vx : vF (X (i + 1)) x.1 = x.2 := vF_of te.1 (List.mem_of_getElem? hx)
      have hgo := out_get (H := H5) (a := a) (b := b) (g := g) (d := i + 1) (.inr ⟨o, ha5⟩) (by omega) (by omega)
      have hgi := dI_get (H := H5) (a := b (i + 1)) (k := x.1) (.inr ⟨o2, hb5⟩) (mem_keys hx)
      have bl : l ≠ b (i + 1) := by rintro rfl; rw [hl5] at hb5; cases hb5
      have al : l ≠ a := by rintro rfl; rw [hl5] at ha5; cases ha5
      rw [vx] at hgi
      refine ⟨_, rfl, _, rfl, a, _, rfl, hgo, _, rfl, b (i + 1), _, rfl, hgi, rfl, _, rfl, iteNE (fun e => ?_) (fun e => ?_)⟩
      · refine ⟨_, rfl, .inl ⟨rfl, _, SqL.of hl5⟩, _, rfl, _, rfl, _, rfl, _, rfl, a, _, rfl, hgo, _, rfl, b (i + 1), _, rfl, hgi, (zB rfl), fun p H6 np s6 hp => ?_⟩
        refine ⟨l, vs, .ref p, rfl, rfl, s6 _ _ hl5, ?_, ?_⟩
        · have e1 := hi5.length
          have e2 := fnd_pre X (g := g) (i := i) (j := j) (by omega)
          rw [List.length_map] at e1
          exact small1000 (by omega)
        · have hl6 := s6 _ _ hl5
          have t6 : ∀ c xs, H5 c = some (.tup xs) → (upd H6 l (.lst (vs ++ [.ref p]))) c = some (.tup xs) := fun c xs e => by
            rw [upd_ne (by rintro rfl; rw [hl5] at e; cases e)]
            exact s6 _ _ e
          have pl : p ≠ l := by rintro rfl; rw [hl5] at np; cases np
          refine ⟨⟨_, rfl⟩, by rw [upd_ne (Ne.symm bl)]; exact s6 _ _ hb5, by rw [upd_ne (Ne.symm al)]; exact s6 _ _ ha5, (z5.trans (Fz.of_same s6)).put nl, _, upd_same, ?_⟩
          rw [entR_add hx, if_neg e, ← List.append_assoc, List.map_append]
          exact (tup_tI t6 hi5).append (iss_cons (is_tI (by rw [upd_ne pl]; exact hp)) iss_nil)
      · refine ⟨⟨_, rfl⟩, hb5, ha5, z5, vs, hl5, ?_⟩
        rw [entR_add hx, if_pos e, List.append_nil]
        exact hi5
    · rintro σ H5 ⟨⟨v3, rfl⟩, hb5, ha5, z5, vs, hl5, hi5⟩
      rw [dI_len, List.take_length, ← fnd_add] at hi5
      exact ⟨⟨_, _, rfl⟩, ha5, z5, vs, hl5, hi5⟩
  · rintro σ H3 ⟨⟨v2, v3, rfl⟩, ha3, z3, vs, hl3, hi3⟩
    rw [outK_len] at hi3
    refine ⟨_, rfl, .ref l, fnd X g, 3, rfl, is_l hl3 hi3, by decide, fun xs hx => ?_, by omega, fun yss l2 H4 hp so nl2 s4 hq4 => ?_⟩
    · obtain ⟨d, s, _, rfl⟩ := (fnd_mem nd).mp hx
      rfl
    · have e := sorted_is hF (fnd_nodup nd) (fun r => fnd_mem nd) hp so
      subst e
      exact kk l2 H4 (z3.trans (Fz.of_same s4)) (z3.free nl2) hq4
theorem rd_eq {H H' : Hp} {a : Addr} {o : HO} (h : Rd H a o) (e : H' a = H a) : Rd H' a o := by
  rcases h with h | ⟨o', h⟩
  · exact .inl (by rw [e]; exact h)
  · exact .inr ⟨o', by rw [e]; exact h⟩
theorem rd_some {H : Hp} {a : Addr} {o : HO} (h : Rd H a o) : H a ≠ none := by
  rcases h with h | ⟨o', h⟩ <;> rw [h] <;> exact fun z => nomatch z
theorem vF_tab {g : Nat} {X : Nat → List (Nat × Int)} {d : Nat} (h1 : 1 ≤ d) (h2 : d ≤ g) : vF (X d) = tabX g X d := by
  funext s
  unfold tabX
  rw [if_pos ⟨h1, h2⟩]
theorem tab_next {g : Nat} {X : Nat → List (Nat × Int)} {ts : List (Nat × Int)} {d s : Nat} : tabX (g + 1) (fun d => if d = g + 1 then ts else X d) d s = if d = g + 1 then vF ts s else tabX g X d s := by
  unfold tabX
  by_cases e : d = g + 1
  · rw [if_pos e, if_pos (by omega)]
    dsimp only
    rw [if_pos e]
  · rw [if_neg e]
    by_cases h : 1 ≤ d ∧ d ≤ g
    · rw [if_pos h, if_pos (by omega)]
      dsimp only
      rw [if_neg e]
    · rw [if_neg h, if_neg (by omega)]
theorem Wh.next {g : Nat} {N W W' : Nat → Nat → Int} (h : Wh g N W) (e1 : ∀ d s, d ≠ g + 1 → W' d s = W d s) (e2 : ∀ s, W' (g + 1) s = N (g + 1) s - below (fun e => cv (W e) (N (g + 1 - e)) s) (g + 1)) : Wh (g + 1) N W' := by
  have ew : ∀ d, d ≠ g + 1 → W' d = W d := fun d hd => by funext s; exact e1 d s hd
  intro d s
  by_cases e : d = g + 1
  · subst e
    rw [if_pos (by omega), e2]
    have : below (fun e => cv (W' e) (N (g + 1 - e)) s) (g + 1) = below (fun e => cv (W e) (N (g + 1 - e)) s) (g + 1) := below_congr fun e h1 h2 => by rw [ew e (by omega)]
    rw [this]
  · rw [e1 d s e, h]
    by_cases hd : 1 ≤ d ∧ d ≤ g
    · rw [if_pos hd, if_pos (by omega)]
      have : below (fun e => cv (W' e) (N (d - e)) s) d = below (fun e => cv (W e) (N (d - e)) s) d := below_congr fun e h1 h2 => by rw [ew e (by omega)]
      rw [this]
    · rw [if_neg hd, if_neg (by omega)]
theorem Co.next {g : Nat} {W C C' : Nat → Nat → Int} (h : Co g W C) (e1 : ∀ d s, d ≠ g + 1 → C' d s = C d s) (e2 : ∀ s, C' (g + 1) s = W (g + 1) s + below (fun e => cv (W e) (C (g + 1 - e)) s) (g + 1)) : Co (g + 1) W C' := by
  have ew : ∀ d, d ≠ g + 1 → C' d = C d := fun d hd => by funext s; exact e1 d s hd
  intro d s
  by_cases e : d = g + 1
  · subst e
    rw [if_pos (by omega), e2]
    have : below (fun e => cv (W e) (C' (g + 1 - e)) s) (g + 1) = below (fun e => cv (W e) (C (g + 1 - e)) s) (g + 1) := below_congr fun e h1 h2 => by rw [ew (g + 1 - e) (by omega)]
    rw [this]
  · rw [e1 d s e, h]
    by_cases hd : 1 ≤ d ∧ d ≤ g
    · rw [if_pos hd, if_pos (by omega)]
      have : below (fun e => cv (W e) (C' (d - e)) s) d = below (fun e => cv (W e) (C (d - e)) s) d := below_congr fun e h1 h2 => by rw [ew (d - e) (by omega)]
      rw [this]
    · rw [if_neg hd, if_neg (by omega)]
theorem ok_wholes_by_degree : OKQ T.X_wholes_by_degree P w base 3 spWBy := by
  refine FbO T.X_wholes_by_degree sc_wholes_by_degree fun cdv A outer s H vs Q E hr h => ?_
  obtain ⟨a, q, n, g, b, X, rfl, hT, hq, hq20, hgn, hbd, kk⟩ := h
  refine ⟨_, (pss_cons (pSA (i := 1) sc_wholes_by_degree.nd pe_dnewK)
    (pss_cons (ps_for PassesOwn.never rfl (pi_dictI (pv 0)) (pGA (i := 2) sc_wholes_by_degree.nd) (pss_cons (ps_dput (hu_of hr) (pv 1) (pv 2) (pe_callTy call_dict_of (by rfl) T.n_dict PyProof.Rows.Boot.«dict» (pa_cons (pe_dget (hu_of hr) (pv 0) (pv 2) (fun _ _ => rfl)) pa_nil)) rfl)
    (pss_one (ps_for PassesOwn.never rfl (pi_range2 (by rfl) T.n_range (pa_cons pe_int (pa_cons (pv 2) pa_nil))) (pGA (i := 3) sc_wholes_by_degree.nd) (pss_one (ps_expr (pcq (ok_add_products T) hr T.X_add_products (pa_cons (pe_dget (hu_of hr) (pv 1) (pv 2) (fun _ _ => rfl)) (pa_cons (pe_dget (hu_of hr) (pv 1) (pv 3) (fun _ _ => rfl)) (pa_cons (pe_dget (hu_of hr) (pv 0) (pe_op op_sub (pv 2) (pv 3)) (fun _ _ => rfl)) (pa_cons (pe_un un_neg pe_int) pa_nil)))))))))))
    (pss_one (ps_ret (pv 1))))), ?_⟩
  refine fun p np => ?_
  have s1 : Same H (upd H p (.dK [])) := Same.new np
  have hp1 : upd H p (.dK []) p = some (.dK []) := upd_same
  generalize upd H p (.dK []) = H1 at s1 hp1 ⊢
  have T1 := hT.fz (Fz.of_same s1)
  have pa : p ≠ a := by rintro rfl; exact rd_some hT.1 np
  refine ⟨_, rfl, a, outK b g, rfl, T1.1, fun o H2 ha2 k2 => ?_⟩
  have z2 := (Fz.of_same s1).trans (Fz.walk T1.1 ha2 k2)
  refine for_dictI (fun i σ H3 => (∃ v2 v3, σ = [some (.ref a), some (.ref p), v2, v3]) ∧ H3 a = some (.frz o (.dK (outK b g))) ∧ Fz H H3 ∧ ∃ b' X', H3 p = some (.dK (outK b' i)) ∧ (∀ d, 1 ≤ d → d ≤ i → Rd H3 (b' d) (.dK (dI (X' d))) ∧ EntOk (q * d) (X' d) ∧ H (b' d) = none ∧ b' d ≠ p) ∧ Wh i (tabX g X) (tabX i X')) ⟨⟨none, none, rfl⟩, ha2, z2, fun _ => p, fun _ => [], by rw [k2 p pa]; exact hp1, fun d h1 h2 => absurd h1 (by omega), fun d s => by rw [if_neg (by omega)]; unfold tabX; rw [if_neg (by omega)]⟩ (fun i σ H3 _ h => h.2.1) ?_ ?_
  · rintro i ky vv σ H3 hi ⟨⟨v2, v3, rfl⟩, ha3, z3, b', X', hp3, hb3, hW⟩
    have hig : i < g := by
      have := (List.getElem?_eq_some_iff.mp hi).1
      rwa [outK_len] at this
    rw [outK_at hig] at hi
    cases hi
    have T3 := hT.fz z3
    obtain ⟨tb, te⟩ := T3.2 (i + 1) (by omega) (by omega)
    refine ⟨_, rfl, _, rfl, a, .ref (b (i + 1)), rfl, out_get (.inr ⟨o, ha3⟩) (by omega) (by omega), b (i + 1), _, rfl, tb, fun t nt => ?_⟩
    have tp : t ≠ p := by rintro rfl; rw [hp3] at nt; cases nt
    have ta : t ≠ a := by rintro rfl; rw [ha3] at nt; cases nt
    have ntH : H t = none := z3.free nt
    refine ⟨_, rfl, _, rfl, p, _, rfl, DPut.k (H := upd H3 t (.dK (dI (X (i + 1))))) (kvs := outK b' i) (k := .inl ((i + 1 : Nat) : Int)) (by rw [upd_ne (Ne.symm tp)]; exact hp3) ?_, ?_⟩
    · rw [outK_len]
      have := hq.2.2
      exact small1000 (by omega)
    rw [outK_put]
    have nb : ∀ d, 1 ≤ d → d ≤ i → b' d ≠ t := fun d h1 h2 e => rd_some (hb3 d h1 h2).1 (e ▸ nt)
    have nc : ∀ d, 1 ≤ d → d ≤ g → b d ≠ t := fun d h1 h2 e => rd_some (T3.2 d h1 h2).1 (e ▸ nt)
    have npb : ∀ d, 1 ≤ d → d ≤ g → b d ≠ p := fun d h1 h2 e => rd_some (hT.2 d h1 h2).1 (e ▸ np)
    have z4 : Fz H (upd (upd H3 t (.dK (dI (X (i + 1))))) p (.dK (outK (fun d => if d = i + 1 then t else b' d) (i + 1)))) := (z3.put ntH).put np
    have ht4 : upd (upd H3 t (.dK (dI (X (i + 1))))) p (.dK (outK (fun d => if d = i + 1 then t else b' d) (i + 1))) t = some (.dK (dI (X (i + 1)))) := by rw [upd_ne tp, upd_same]
    have hp4 : upd (upd H3 t (.dK (dI (X (i + 1))))) p (.dK (outK (fun d => if d = i + 1 then t else b' d) (i + 1))) p = some (.dK (outK (fun d => if d = i + 1 then t else b' d) (i + 1))) := upd_same
    have ha4 : upd (upd H3 t (.dK (dI (X (i + 1))))) p (.dK (outK (fun d => if d = i + 1 then t else b' d) (i + 1))) a = some (.frz o (.dK (outK b g))) := by rw [upd_ne (Ne.symm pa), upd_ne (Ne.symm ta)]; exact ha3
    have hb4 : ∀ d, 1 ≤ d → d ≤ i → Rd (upd (upd H3 t (.dK (dI (X (i + 1))))) p (.dK (outK (fun d => if d = i + 1 then t else b' d) (i + 1)))) (b' d) (.dK (dI (X' d))) := fun d h1 h2 => rd_eq (hb3 d h1 h2).1 (by rw [upd_ne (hb3 d h1 h2).2.2.2, upd_ne (nb d h1 h2)])
    generalize upd (upd H3 t (.dK (dI (X (i + 1))))) p (.dK (outK (fun d => if d = i + 1 then t else b' d) (i + 1))) = H4 at z4 ht4 hp4 ha4 hb4 ⊢
    refine ⟨_, rfl, 1, _, rfl, ⟨by decide, by decide, by have := hq.2.2; omega, by have := hq.2.2; omega⟩, ?_⟩
    rw [show (((i + 1 : Nat) : Int) - 1).toNat = i by omega]
    refine for_range (lo := 1) (n := i) (fun m σ H5 => (∃ v3, σ = [some (.ref a), some (.ref p), some (.int ((i + 1 : Nat) : Int)), v3]) ∧ H5 a = some (.frz o (.dK (outK b g))) ∧ Fz H H5 ∧ H5 p = some (.dK (outK (fun d => if d = i + 1 then t else b' d) (i + 1))) ∧ (∀ d, 1 ≤ d → d ≤ i → Rd H5 (b' d) (.dK (dI (X' d)))) ∧ ∃ ts, H5 t = some (.dK (dI ts)) ∧ EntOk (q * (i + 1)) ts ∧ ∀ s, vF ts s = tabX g X (i + 1) s - sumN (fun e => cv (tabX i X' (e + 1)) (tabX g X (i + 1 - (e + 1))) s) m) ⟨⟨_, rfl⟩, ha4, z4, hp4, hb4, _, ht4, te, fun s => by rw [vF_tab (g := g) (by omega) (by omega)]; simp [sumN]⟩ ?_ ?_
    · rintro m σ H5 hm ⟨⟨v3, rfl⟩, ha5, z5, hp5, hb5, ts, ht5, ot5, hv5⟩
      have T5 := hT.fz z5
      have em : (1 : Int) + (m : Int) = ((m + 1 : Nat) : Int) := by omega
      rw [em]
      have ed : ((i + 1 : Nat) : Int) - ((m + 1 : Nat) : Int) = ((i + 1 - (m + 1) : Nat) : Int) := by omega
      obtain ⟨tc, oc⟩ := T5.2 (i + 1 - (m + 1)) (by omega) (by omega)
      have hg1 := out_get (H := H5) (a := p) (d := i + 1) (.inl hp5) (by omega) (by omega)
      have hg2 := out_get (H := H5) (a := p) (d := m + 1) (.inl hp5) (by omega) (by omega)
      have hg3 := out_get (H := H5) (a := a) (d := i + 1 - (m + 1)) (.inr ⟨o, ha5⟩) (by omega) (by omega)
      rw [if_pos rfl] at hg1
      rw [if_neg (by omega)] at hg2
      rw [← ed] at hg3
      have hbm := hb5 (m + 1) (by omega) (by omega)
      obtain ⟨_, obm, nbH, nbp⟩ := hb3 (m + 1) (by omega) (by omega)
      have eqd : q * (i + 1) = q * (m + 1) + q * (i + 1 - (m + 1)) := by rw [← Nat.mul_add]; congr 1; omega
      refine ⟨_, rfl, _, rfl, p, _, rfl, hg1, _, rfl, _, rfl, p, _, rfl, hg2, _, rfl, _, rfl, _, rfl, _, _, rfl, rfl, a, _, rfl, hg3, 1, rfl, ?_⟩
      refine ⟨t, b' (m + 1), b (i + 1 - (m + 1)), ts, X' (m + 1), X (i + 1 - (m + 1)), q * (m + 1), q * (i + 1 - (m + 1)), -1, rfl, .inr rfl, ht5, by rw [← eqd]; exact ot5, hbm, obm, obm.le (Nat.le_trans (Nat.mul_le_mul_left q (show m + 1 ≤ n by omega)) hq20), tc, oc, by rw [← eqd]; exact hq.le (by omega), Ne.symm (nb _ (by omega) (by omega)), Ne.symm (nc _ (by omega) (by omega)), ?_, ?_, ?_⟩
      · intro e
        exact rd_some (hT.2 (i + 1 - (m + 1)) (by omega) (by omega)).1 (e ▸ nbH)
      · intro r s
        rw [vF_tab (g := i) (X := X') (by omega) (by omega), vF_tab (g := g) (X := X) (by omega) (by omega)]
        exact hbd i _ (by omega) hW _ _ _ _
      intro H6 ts6 ht6 ot6 hv6 pz6 same6
      have z6 : Fz H H6 := fun c => by
        by_cases e : c = t
        · intro u hu; rw [e, ntH] at hu; cases hu
        · exact Pz.trans (z5 c) (pz6 c e)
      rw [← eqd] at ot6
      refine ⟨⟨_, rfl⟩, ?_, z6, ?_, fun d h1 h2 => Pz.rd (pz6 _ (nb d h1 h2)) (hb5 d h1 h2), ts6, ht6, ot6, fun s => ?_⟩
      · rw [same6 a (Ne.symm ta) (fun e => rd_some hT.1 (e ▸ nbH)) (Ne.symm (out_ne hT.1 (hT.2 _ (by omega) (by omega)).1 (by omega)))]; exact ha5
      · rw [same6 p (Ne.symm tp) (Ne.symm nbp) (Ne.symm (npb _ (by omega) (by omega)))]; exact hp5
      · rw [hv6, hv5, vF_tab (g := i) (X := X') (by omega) (by omega), vF_tab (g := g) (X := X) (by omega) (by omega)]
        show _ = _ - (sumN _ m + cv (tabX i X' (m + 1)) (tabX g X (i + 1 - (m + 1))) s)
        omega
    · rintro σ H5 ⟨⟨v3, rfl⟩, ha5, z5, hp5, hb5, ts, ht5, ot5, hv5⟩
      refine ⟨⟨_, _, rfl⟩, ha5, z5, _, fun d => if d = i + 1 then ts else X' d, hp5, fun d h1 h2 => ?_, hW.next (fun d s hd => by rw [tab_next, if_neg hd]) (fun s => by rw [tab_next, if_pos rfl]; exact hv5 s)⟩
      by_cases e : d = i + 1
      · dsimp only
        rw [if_pos e, if_pos e, e]
        exact ⟨.inl ht5, ot5, ntH, tp⟩
      · dsimp only
        rw [if_neg e, if_neg e]
        exact ⟨hb5 d h1 (by omega), (hb3 d h1 (by omega)).2⟩
  · rintro σ H3 ⟨⟨v2, v3, rfl⟩, ha3, z3, b', X', hp3, hb3, hW⟩
    rw [outK_len] at hp3 hb3 hW
    exact ⟨_, rfl, kk p b' X' H3 z3 ⟨.inl hp3, fun d h1 h2 => ⟨(hb3 d h1 h2).1, (hb3 d h1 h2).2.1⟩⟩ hW⟩
theorem ok_counts_by_degree : OKQ T.X_counts_by_degree P w base 3 spCBy := by
  refine FbO T.X_counts_by_degree sc_counts_by_degree fun cdv A outer s H vs Q E hr h => ?_
  obtain ⟨a, q, n, g, b, X, rfl, hT, hq, hX20, hgn, hbd, kk⟩ := h
  refine ⟨_, (pss_cons (pSA (i := 1) sc_counts_by_degree.nd pe_dnewK)
    (pss_cons (ps_for PassesOwn.never rfl (pi_dictI (pv 0)) (pGA (i := 2) sc_counts_by_degree.nd) (pss_cons (ps_dput (hu_of hr) (pv 1) (pv 2) (pe_callTy call_dict_of (by rfl) T.n_dict PyProof.Rows.Boot.«dict» (pa_cons (pe_dget (hu_of hr) (pv 0) (pv 2) (fun _ _ => rfl)) pa_nil)) rfl)
    (pss_one (ps_for PassesOwn.never rfl (pi_range2 (by rfl) T.n_range (pa_cons pe_int (pa_cons (pv 2) pa_nil))) (pGA (i := 3) sc_counts_by_degree.nd) (pss_one (ps_expr (pcq (ok_add_products T) hr T.X_add_products (pa_cons (pe_dget (hu_of hr) (pv 1) (pv 2) (fun _ _ => rfl)) (pa_cons (pe_dget (hu_of hr) (pv 0) (pv 3) (fun _ _ => rfl)) (pa_cons (pe_dget (hu_of hr) (pv 1) (pe_op op_sub (pv 2) (pv 3)) (fun _ _ => rfl)) (pa_cons pe_int pa_nil)))))))))))
    (pss_one (ps_ret (pv 1))))), ?_⟩
  refine fun p np => ?_
  have s1 : Same H (upd H p (.dK [])) := Same.new np
  have hp1 : upd H p (.dK []) p = some (.dK []) := upd_same
  generalize upd H p (.dK []) = H1 at s1 hp1 ⊢
  have T1 := hT.fz (Fz.of_same s1)
  have pa : p ≠ a := by rintro rfl; exact rd_some hT.1 np
  refine ⟨_, rfl, a, outK b g, rfl, T1.1, fun o H2 ha2 k2 => ?_⟩
  have z2 := (Fz.of_same s1).trans (Fz.walk T1.1 ha2 k2)
  refine for_dictI (fun i σ H3 => (∃ v2 v3, σ = [some (.ref a), some (.ref p), v2, v3]) ∧ H3 a = some (.frz o (.dK (outK b g))) ∧ Fz H H3 ∧ ∃ b' X', H3 p = some (.dK (outK b' i)) ∧ (∀ d, 1 ≤ d → d ≤ i → Rd H3 (b' d) (.dK (dI (X' d))) ∧ EntOk (q * d) (X' d) ∧ H (b' d) = none ∧ b' d ≠ p) ∧ Co i (tabX g X) (tabX i X')) ⟨⟨none, none, rfl⟩, ha2, z2, fun _ => p, fun _ => [], by rw [k2 p pa]; exact hp1, fun d h1 h2 => absurd h1 (by omega), fun d s => by rw [if_neg (by omega)]; unfold tabX; rw [if_neg (by omega)]⟩ (fun i σ H3 _ h => h.2.1) ?_ ?_
  · rintro i ky vv σ H3 hi ⟨⟨v2, v3, rfl⟩, ha3, z3, b', X', hp3, hb3, hW⟩
    have hig : i < g := by
      have := (List.getElem?_eq_some_iff.mp hi).1
      rwa [outK_len] at this
    rw [outK_at hig] at hi
    cases hi
    have T3 := hT.fz z3
    obtain ⟨tb, te⟩ := T3.2 (i + 1) (by omega) (by omega)
    refine ⟨_, rfl, _, rfl, a, .ref (b (i + 1)), rfl, out_get (.inr ⟨o, ha3⟩) (by omega) (by omega), b (i + 1), _, rfl, tb, fun t nt => ?_⟩
    have tp : t ≠ p := by rintro rfl; rw [hp3] at nt; cases nt
    have ta : t ≠ a := by rintro rfl; rw [ha3] at nt; cases nt
    have ntH : H t = none := z3.free nt
    refine ⟨_, rfl, _, rfl, p, _, rfl, DPut.k (H := upd H3 t (.dK (dI (X (i + 1))))) (kvs := outK b' i) (k := .inl ((i + 1 : Nat) : Int)) (by rw [upd_ne (Ne.symm tp)]; exact hp3) ?_, ?_⟩
    · rw [outK_len]
      have := hq.2.2
      exact small1000 (by omega)
    rw [outK_put]
    have nb : ∀ d, 1 ≤ d → d ≤ i → b' d ≠ t := fun d h1 h2 e => rd_some (hb3 d h1 h2).1 (e ▸ nt)
    have nc : ∀ d, 1 ≤ d → d ≤ g → b d ≠ t := fun d h1 h2 e => rd_some (T3.2 d h1 h2).1 (e ▸ nt)
    have npb : ∀ d, 1 ≤ d → d ≤ g → b d ≠ p := fun d h1 h2 e => rd_some (hT.2 d h1 h2).1 (e ▸ np)
    have z4 : Fz H (upd (upd H3 t (.dK (dI (X (i + 1))))) p (.dK (outK (fun d => if d = i + 1 then t else b' d) (i + 1)))) := (z3.put ntH).put np
    have ht4 : upd (upd H3 t (.dK (dI (X (i + 1))))) p (.dK (outK (fun d => if d = i + 1 then t else b' d) (i + 1))) t = some (.dK (dI (X (i + 1)))) := by rw [upd_ne tp, upd_same]
    have hp4 : upd (upd H3 t (.dK (dI (X (i + 1))))) p (.dK (outK (fun d => if d = i + 1 then t else b' d) (i + 1))) p = some (.dK (outK (fun d => if d = i + 1 then t else b' d) (i + 1))) := upd_same
    have ha4 : upd (upd H3 t (.dK (dI (X (i + 1))))) p (.dK (outK (fun d => if d = i + 1 then t else b' d) (i + 1))) a = some (.frz o (.dK (outK b g))) := by rw [upd_ne (Ne.symm pa), upd_ne (Ne.symm ta)]; exact ha3
    have hb4 : ∀ d, 1 ≤ d → d ≤ i → Rd (upd (upd H3 t (.dK (dI (X (i + 1))))) p (.dK (outK (fun d => if d = i + 1 then t else b' d) (i + 1)))) (b' d) (.dK (dI (X' d))) := fun d h1 h2 => rd_eq (hb3 d h1 h2).1 (by rw [upd_ne (hb3 d h1 h2).2.2.2, upd_ne (nb d h1 h2)])
    generalize upd (upd H3 t (.dK (dI (X (i + 1))))) p (.dK (outK (fun d => if d = i + 1 then t else b' d) (i + 1))) = H4 at z4 ht4 hp4 ha4 hb4 ⊢
    refine ⟨_, rfl, 1, _, rfl, ⟨by decide, by decide, by have := hq.2.2; omega, by have := hq.2.2; omega⟩, ?_⟩
    rw [show (((i + 1 : Nat) : Int) - 1).toNat = i by omega]
    refine for_range (lo := 1) (n := i) (fun m σ H5 => (∃ v3, σ = [some (.ref a), some (.ref p), some (.int ((i + 1 : Nat) : Int)), v3]) ∧ H5 a = some (.frz o (.dK (outK b g))) ∧ Fz H H5 ∧ H5 p = some (.dK (outK (fun d => if d = i + 1 then t else b' d) (i + 1))) ∧ (∀ d, 1 ≤ d → d ≤ i → Rd H5 (b' d) (.dK (dI (X' d)))) ∧ ∃ ts, H5 t = some (.dK (dI ts)) ∧ EntOk (q * (i + 1)) ts ∧ ∀ s, vF ts s = tabX g X (i + 1) s + sumN (fun e => cv (tabX g X (e + 1)) (tabX i X' (i + 1 - (e + 1))) s) m) ⟨⟨_, rfl⟩, ha4, z4, hp4, hb4, _, ht4, te, fun s => by rw [vF_tab (g := g) (by omega) (by omega)]; simp [sumN]⟩ ?_ ?_
    · rintro m σ H5 hm ⟨⟨v3, rfl⟩, ha5, z5, hp5, hb5, ts, ht5, ot5, hv5⟩
      have T5 := hT.fz z5
      have em : (1 : Int) + (m : Int) = ((m + 1 : Nat) : Int) := by omega
      rw [em]
      have ed : ((i + 1 : Nat) : Int) - ((m + 1 : Nat) : Int) = ((i + 1 - (m + 1) : Nat) : Int) := by omega
      obtain ⟨tc, oc⟩ := T5.2 (m + 1) (by omega) (by omega)
      have hg1 := out_get (H := H5) (a := p) (d := i + 1) (.inl hp5) (by omega) (by omega)
      have hg2 := out_get (H := H5) (a := a) (d := m + 1) (.inr ⟨o, ha5⟩) (by omega) (by omega)
      have hg3 := out_get (H := H5) (a := p) (d := i + 1 - (m + 1)) (.inl hp5) (by omega) (by omega)
      rw [if_pos rfl] at hg1
      rw [if_neg (by omega)] at hg3
      rw [← ed] at hg3
      have hbm := hb5 (i + 1 - (m + 1)) (by omega) (by omega)
      obtain ⟨_, obm, nbH, nbp⟩ := hb3 (i + 1 - (m + 1)) (by omega) (by omega)
      have eqd : q * (i + 1) = q * (m + 1) + q * (i + 1 - (m + 1)) := by rw [← Nat.mul_add]; congr 1; omega
      refine ⟨_, rfl, _, rfl, p, _, rfl, hg1, _, rfl, _, rfl, a, _, rfl, hg2, _, rfl, _, rfl, _, rfl, _, _, rfl, rfl, p, _, rfl, hg3, ?_⟩
      refine ⟨t, b (m + 1), b' (i + 1 - (m + 1)), ts, X (m + 1), X' (i + 1 - (m + 1)), q * (m + 1), q * (i + 1 - (m + 1)), 1, rfl, .inl rfl, ht5, by rw [← eqd]; exact ot5, tc, oc, hX20 (m + 1) (by omega) (by omega), hbm, obm, by rw [← eqd]; exact hq.le (by omega), Ne.symm (nc _ (by omega) (by omega)), Ne.symm (nb _ (by omega) (by omega)), ?_, ?_, ?_⟩
      · intro e
        exact rd_some (hT.2 (m + 1) (by omega) (by omega)).1 (e ▸ nbH)
      · intro r s
        rw [vF_tab (g := g) (X := X) (by omega) (by omega), vF_tab (g := i) (X := X') (by omega) (by omega)]
        exact hbd i _ (by omega) hW _ _ _ _
      intro H6 ts6 ht6 ot6 hv6 pz6 same6
      have z6 : Fz H H6 := fun c => by
        by_cases e : c = t
        · intro u hu; rw [e, ntH] at hu; cases hu
        · exact Pz.trans (z5 c) (pz6 c e)
      rw [← eqd] at ot6
      refine ⟨⟨_, rfl⟩, ?_, z6, ?_, fun d h1 h2 => Pz.rd (pz6 _ (nb d h1 h2)) (hb5 d h1 h2), ts6, ht6, ot6, fun s => ?_⟩
      · rw [same6 a (Ne.symm ta) (Ne.symm (out_ne hT.1 (hT.2 _ (by omega) (by omega)).1 (by omega))) (fun e => rd_some hT.1 (e ▸ nbH))]; exact ha5
      · rw [same6 p (Ne.symm tp) (Ne.symm (npb _ (by omega) (by omega))) (Ne.symm nbp)]; exact hp5
      · rw [hv6, hv5, vF_tab (g := i) (X := X') (by omega) (by omega), vF_tab (g := g) (X := X) (by omega) (by omega)]
        show _ = _ + (sumN _ m + cv (tabX g X (m + 1)) (tabX i X' (i + 1 - (m + 1))) s)
        omega
    · rintro σ H5 ⟨⟨v3, rfl⟩, ha5, z5, hp5, hb5, ts, ht5, ot5, hv5⟩
      refine ⟨⟨_, _, rfl⟩, ha5, z5, _, fun d => if d = i + 1 then ts else X' d, hp5, fun d h1 h2 => ?_, hW.next (fun d s hd => by rw [tab_next, if_neg hd]) (fun s => by rw [tab_next, if_pos rfl]; exact hv5 s)⟩
      by_cases e : d = i + 1
      · dsimp only
        rw [if_pos e, if_pos e, e]
        exact ⟨.inl ht5, ot5, ntH, tp⟩
      · dsimp only
        rw [if_neg e, if_neg e]
        exact ⟨hb5 d h1 (by omega), (hb3 d h1 (by omega)).2⟩
  · rintro σ H3 ⟨⟨v2, v3, rfl⟩, ha3, z3, b', X', hp3, hb3, hW⟩
    rw [outK_len] at hp3 hb3 hW
    exact ⟨_, rfl, kk p b' X' H3 z3 ⟨.inl hp3, fun d h1 h2 => ⟨(hb3 d h1 h2).1, (hb3 d h1 h2).2.1⟩⟩ hW⟩
theorem grt_ok {q n : Nat} {F : Nat → Nat → Int} (hF : FOk q n F) : ∃ G : Nat, grt (canon q F n) = (G : Int) ∧ G ≤ n ∧ (∀ d s, F d s ≠ 0 → d ≤ G) ∧ (1 ≤ G → ∃ s, F G s ≠ 0) ∧ (canon q F n ≠ [] → 1 ≤ G) := by
  unfold grt
  by_cases h : (canon q F n).length = 0
  · have e : canon q F n = [] := List.length_eq_zero_iff.mp h
    refine ⟨0, by rw [e]; rfl, Nat.zero_le _, fun d s hne => ?_, fun h => absurd h (by omega), fun z => absurd e z⟩
    have := (canon_mem hF).mpr ⟨d, s, hne, rfl⟩
    rw [e] at this
    exact nomatch this
  · have hl : ((canon q F n).map (·.getD 0 0)).length ≠ 0 := by rw [List.length_map]; exact h
    rw [if_neg hl]
    obtain ⟨r, hr, er⟩ := List.mem_map.mp (maxL_mem (ns := (canon q F n).map (·.getD 0 0)) (by omega))
    obtain ⟨d, s, hne, rfl⟩ := (canon_mem hF).mp hr
    have er : (d : Int) = maxL ((canon q F n).map (·.getD 0 0)) := er
    obtain ⟨d1, dn, _⟩ := hF d s hne
    refine ⟨d, er.symm, dn, fun d' s' hne' => ?_, fun _ => ⟨s, hne⟩, fun _ => d1⟩
    have := maxL_ge (ns := (canon q F n).map (·.getD 0 0)) (List.mem_map.mpr ⟨_, (canon_mem hF).mpr ⟨d', s', hne', rfl⟩, rfl⟩)
    have : (d' : Int) ≤ _ := this
    omega
theorem ok_wholes_of : OKQ T.X_wholes_of P w base 4 spWOf := by
  refine FbO T.X_wholes_of sc_wholes_of fun cdv A outer s H vs Q E hr h => ?_
  obtain ⟨v, q, n, F, rfl, hv, hq, hq20, hF, hbd, kk⟩ := h
  refine ⟨_, (pss_cons (pSA (i := 1) sc_wholes_of.nd (pe_maxd rfl (by rfl) T.n_max (pa_cons (pe_compB (XN := ["table", "greatest"]) (sc := defScope s_wholes_of) (N := ["row"]) (own := 1) (js := []) rfl (by decide +kernel) rfl rfl (pi_list (pv 0)) (fun _ _ _ _ => (pg_name (i := 0) (show List.Nodup (["row"] : List Str) by decide +kernel) rfl (Or.inl rfl) (.inr rfl))) (ownG_name (by decide)) (fun _ _ _ _ => pifs_nil) (fun _ _ _ _ => (pe_ix ix_tupN (pv 0) pe_int (fun _ _ => rfl)))) pa_nil) (pk_cons pe_int pk_nil)))
    (pss_one (ps_ret (pcq (ok_as_table T) hr T.X_as_table (pa_cons (pcq (ok_wholes_by_degree T) hr T.X_wholes_by_degree (pa_cons (pcq (ok_by_degree T) hr T.X_by_degree (pa_cons (pv 0) (pa_cons (pv 1) pa_nil))) pa_nil)) pa_nil))))), ?_⟩
  obtain ⟨la, lvs, rfl, hla, hli⟩ := of_l hv
  have llen : lvs.length = (canon q F n).length := by rw [hli.length, List.length_map]
  have hlen := canon_len (F := F) hq
  refine ⟨_, rfl, la, rfl, ⟨_, SqL.of hla⟩, fun acc na => ?_⟩
  refine comp_list (xs := lvs) (own := 1) (js := []) (fun j H4 => Same H H4 ∧ H4 acc = some (.lst ((((canon q F n).take j).map (·.getD 0 0)).map V.int))) ⟨Same.new na, upd_same⟩ (fun j H4 _ h => SqL.of (h.1 _ _ hla)) ?_ ?_ mono_name mono_yes ?_
  · rintro j x H4 hj ⟨s4, hacc⟩
    obtain ⟨r, hr', hy⟩ := issM hli hj
    obtain ⟨d, s, hne, rfl⟩ := (canon_mem hF).mp (List.mem_of_getElem? hr')
    refine yesN ?_
    refine ⟨_, rfl, _, 0, .i (d : Int), hy.mono s4, rfl, rfl, fun u hu => ?_⟩
    rw [of_i hu]
    refine ⟨acc, _, _, rfl, rfl, hacc, small1000 ?_, s4.put na, ?_⟩
    · rw [List.length_map, List.length_map, List.length_take]; omega
    · rw [upd_same, List.take_add_one, hr', List.map_append, List.map_append]; rfl
  · rintro H4 ⟨s4, hacc⟩
    rw [llen, List.take_length] at hacc
    refine ⟨acc, _, 0, rfl, rfl, SqL.of hacc, ?_⟩
    obtain ⟨G, hG, gn, hdg, _, _⟩ := grt_ok hF
    unfold grt at hG
    rw [hG]
    have hc : cutF G F = F := by
      funext d s
      unfold cutF
      by_cases e : d ≤ G
      · rw [if_pos e]
      · rw [if_neg e]
        exact (Classical.byContradiction fun z => e (hdg d s (Ne.symm z)))
    have n4 := hq.2.2
    refine ⟨_, rfl, _, rfl, _, q, n, G, F, rfl, hv.mono s4, hF, hq, by omega, fun a b X H5 s5 hT _ hX => ?_⟩
    rw [hc] at hX
    refine ⟨a, q, n, G, b, X, rfl, hT, hq, hq20, gn, by rw [hX]; exact hbd G (by unfold grt; exact hG), fun p b' X' H6 z6 hT6 hW => ?_⟩
    refine ⟨p, q, n, G, b', X', rfl, hT6, hq, gn, fun l H7 z7 nl hl => ?_⟩
    rw [hX] at hW
    have z : Fz H H6 := (Fz.of_same (s4.trans s5)).trans z6
    exact kk l _ G H7 (z.trans z7) (z.free nl) (by unfold grt; exact hG) hdg hW (hW.ok hF gn) hl
  · rintro σ H R R' k ⟨v1, e1, xs, i, d, h1, h2, h3, h⟩
    exact ⟨v1, e1, xs, i, d, h1, h2, h3, fun u hu => k _ _ (h u hu)⟩
theorem ok_counts_of : FnOk P w K mg base (CX1 P w) 4 T.f_counts_of T.d_counts_of ["table", "greatest"] (spCOf T.c_NoBound) := by
  refine T.X_counts_of.F.okx sc_counts_of (fun vs H Q E h => ?_) (fun cdv A outer s H vs Q E hr h hR hp => ?_)
  · obtain ⟨_, _, _, _, _, rfl, _⟩ := h
    rfl
  · obtain ⟨v, gv, q, n, F, rfl, hv, hq, hq20, hF, hb, hgv, kk, ke⟩ := h
    refine ⟨_, (pss_cons (ps_expr (pe_call (ok_need_between T) (hr.mono (by decide)) (by rfl) T.X_need_between.m T.X_need_between.F.kp T.X_need_between.B .nil hp (pa_cons (pv 1) (pa_cons pe_int (pa_cons pe_int pa_nil)))))
      (pss_one (ps_ret (pcq (ok_as_table T) hr T.X_as_table (pa_cons (pcq (ok_counts_by_degree T) hr T.X_counts_by_degree (pa_cons (pcq (ok_by_degree T) hr T.X_by_degree (pa_cons (pv 0) (pa_cons (pv 1) pa_nil))) pa_nil)) pa_nil))))), ?_⟩
    refine ⟨_, rfl, gv, 1, 4, rfl, hgv, fun hW => ?_, fun hn => ⟨by decide, ke hn⟩⟩
    obtain ⟨i, rfl, i1, i4⟩ := hW
    obtain ⟨g, rfl⟩ := Int.eq_ofNat_of_zero_le (show 0 ≤ i by omega)
    have kk := kk g rfl (by omega) (by omega)
    have n1 := hq.2.1
    have q20 : q ≤ 20 := by
      have : q * 1 ≤ q * n := Nat.mul_le_mul_left q n1
      omega
    have sz4 : Sz q 4 := ⟨by omega, by decide, by decide⟩
    refine ⟨_, rfl, _, rfl, _, q, n, g, F, rfl, hv, hF, hq, by omega, fun a b X H5 s5 hT hX20 hX => ?_⟩
    have hcm : CoOk g (tabX g X) := fun i C _ _ d e s t => by
      rw [hX]
      refine .inl ?_
      unfold cutF
      by_cases e : d ≤ g
      · rw [if_pos e]; exact hb d s
      · rw [if_neg e]; exact ⟨by decide, by decide⟩
    refine ⟨a, q, 4, g, b, X, rfl, hT, sz4, fun d h1 h2 => (hX20 d h1 h2).le hq20, by omega, hcm, fun p b' X' H6 z6 hT6 hW => ?_⟩
    refine ⟨p, q, 4, g, b', X', rfl, hT6, sz4, by omega, fun l H7 z7 nl hl => ?_⟩
    rw [hX] at hW
    have z : Fz H H6 := (Fz.of_same s5).trans z6
    have n4 := hq.2.2
    exact kk l _ H7 (z.trans z7) (z.free nl) hW (hW.ok ((cutF_ok hF).up n4) (by omega)) hl
theorem ok__law_right : OKQ T.X__law_right P w base 1 spRight := by
  refine FbO T.X__law_right sc__law_right fun cdv A outer s H vs Q E hr h => ?_
  obtain ⟨v, q, n, F, rfl, hv, hq, hF, kk⟩ := h
  refine ⟨_, (pss_cons (ps_if (pt_not (pt_val (pe_callB call_isi (by rfl) T.n_isinstance boot_isinstance (pa_cons (pv 0) (pa_cons (pe_bltn (v := .ty "list") (by rfl) T.n_list boot_list (by rfl)) pa_nil))))) (pss_one (ps_ret pe_bl)) pss_nil)
    (pss_cons (ps_for PassesOwn.never rfl (pi_list (pv 0)) (pGA (i := 1) sc__law_right.nd) (pss_cons (ps_if (pw_or (pt_not (pt_val (pe_callB call_isi (by rfl) T.n_isinstance boot_isinstance (pa_cons (pv 1) (pa_cons (pe_bltn (v := .ty "tuple") (by rfl) T.n_tuple boot_tuple (by rfl)) pa_nil))))) (pw_or (pt_cmpR op_ne (pe_callB call_lenN (by rfl) T.n_len boot_len (pa_cons (pv 1) pa_nil)) pe_int (nomark _)) (pw_or1 (pt_cmpR op_eq (pe_ix ix_tupN (pv 1) pe_int (fun _ _ => rfl)) pe_int (nomark _))))).pt (pss_one (ps_ret pe_bl)) pss_nil)
    (pss_one (ps_if (pt_val (pe_callB (call_any rfl) (by rfl) T.n_any boot_any (pa_cons (pe_compB (XN := ["_law_told", "_law_row"]) (sc := defScope s__law_right) (N := ["_law_number"]) (own := 1) (js := []) rfl (by decide +kernel) rfl rfl (pi_tup (pv 1)) (fun _ _ _ _ => (pg_name (i := 0) (show List.Nodup (["_law_number"] : List Str) by decide +kernel) rfl (Or.inl rfl) (.inr rfl))) (ownG_name (by decide)) (fun _ _ _ _ => pifs_nil) (fun _ _ _ _ => (pe_or (pe_not (pe_callB (call_isiK (K := K) rfl) (by rfl) T.n_isinstance boot_isinstance (pa_cons (pv 0) (pa_cons (pe_bltn (v := .ty "int") (by rfl) T.n_int boot_int (by rfl)) pa_nil)))) (pe_one (pe_callB (call_isiK (K := K) rfl) (by rfl) T.n_isinstance boot_isinstance (pa_cons (pv 0) (pa_cons (pe_bltn (v := .ty "bool") (by rfl) T.n_bool boot_bool (by rfl)) pa_nil))))))) pa_nil))) (pss_one (ps_ret pe_bl)) pss_nil))))
    (pss_one (ps_ret (pe_callB (call_all rfl) (by rfl) T.n_all boot_all (pa_cons (pe_compB (XN := ["_law_told", "_law_row"]) (sc := defScope s__law_right) (N := ["_law_k", "_law_told"]) (own := 1) (js := [0]) rfl (by decide +kernel) rfl rfl (pi_range2 (by rfl) T.n_range (pa_cons pe_int (pa_cons (pe_callB call_lenN (by rfl) T.n_len boot_len (pa_cons (pv 0) pa_nil)) pa_nil))) (fun _ _ _ _ => (pg_name (i := 0) (show List.Nodup (["_law_k", "_law_told"] : List Str) by decide +kernel) rfl (Or.inl rfl) (.inr rfl))) (ownG_name (by decide)) (fun _ _ _ _ => pifs_nil) (fun _ _ _ _ => (pe_cmpR (op_ltSK (K := K) rfl hr) (pe_slice sl_tupN (pe_ix ix_listN (pv 1) (pe_op op_sub (pv 0) pe_int) (fun _ _ => rfl)) po_none (po_some pe_int)) (pe_slice sl_tupN (pe_ix ix_listN (pv 1) (pv 0) (fun _ _ => rfl)) po_none (po_some pe_int)) (nomark _)))) pa_nil)))))), ?_⟩
  obtain ⟨la, lvs, rfl, hla, hli⟩ := of_l hv
  have llen : lvs.length = (canon q F n).length := by rw [hli.length, List.length_map]
  have hlen := canon_len (F := F) hq
  refine ⟨_, rfl, _, "list", _, true, rfl, .lst hla, kit_same, true, rfl, iteF ?_⟩
  refine ⟨_, rfl, la, rfl, ⟨_, SqL.of hla⟩, for_list (xs := lvs) (fun i σ H2 => (∃ v1, σ = [some (.ref la), v1]) ∧ Same H H2) ⟨⟨none, rfl⟩, Same.refl _⟩ (fun i σ H2 _ h => SqL.of (h.2 _ _ hla)) ?_ ?_⟩
  · rintro i y σ H2 hi ⟨⟨v1, rfl⟩, s2⟩
    obtain ⟨r, hr', hy⟩ := issM hli hi
    obtain ⟨d, s, hne, rfl⟩ := (canon_mem hF).mp (List.mem_of_getElem? hr')
    have hy2 := hy.mono s2
    obtain ⟨t, rfl, ht⟩ := of_tI hy2
    refine ⟨_, rfl, _, "tuple", _, true, rfl, .tup ht, kit_same, true, rfl, iteF ⟨_, rfl, _, _, rfl, .inr hy2, rfl, _, rfl, iteNE (fun h => absurd rfl h) (fun _ => ?_)⟩⟩
    refine ⟨_, rfl, _, 2, .i (F d s), hy2, rfl, rfl, fun u hu => ?_⟩
    rw [of_i hu]
    refine ⟨rfl, _, rfl, iteE (fun e => absurd e hne) (fun _ => ?_)⟩
    refine ⟨_, rfl, t, rfl, ⟨_, SqT.of ht⟩, fun acc na => ?_⟩
    refine comp_tup (xs := [.int d, .int s, .int (F d s)]) (own := 1) (js := []) (fun j H4 => Same H2 H4 ∧ H4 acc = some (.lst ((List.replicate j false).map V.bl))) ⟨Same.new na, upd_same⟩ (fun j H4 _ h => SqT.of (h.1 _ _ ht)) ?_ ?_ mono_name mono_yes ?_
    · rintro j x H4 hj ⟨s4, hacc⟩
      have hj3 : j < 3 := (List.getElem?_eq_some_iff.mp hj).1
      obtain ⟨n, rfl⟩ : ∃ n : Int, x = .int n := by
        have : j = 0 ∨ j = 1 ∨ j = 2 := by omega
        rcases this with rfl | rfl | rfl
        · exact ⟨_, (Option.some.inj hj).symm⟩
        · exact ⟨_, (Option.some.inj hj).symm⟩
        · exact ⟨_, (Option.some.inj hj).symm⟩
      refine yesN ?_
      refine ⟨_, rfl, _, "int", _, true, rfl, .int n, kit_same, true, rfl, false, rfl, iteF ⟨_, rfl, _, "bool", _, false, rfl, .int n, kit_int_bool, acc, _, _, rfl, rfl, hacc, small1000 (by rw [List.length_map, List.length_replicate]; omega), s4.put na, ?_⟩⟩
      rw [upd_same, List.replicate_succ', List.map_append]
      rfl
    · rintro H4 ⟨s4, hacc⟩
      exact ⟨acc, List.replicate 3 false, rfl, SqL.of hacc, false, rfl, iteF ⟨⟨_, rfl⟩, s2.trans s4⟩⟩
    · rintro σ H R R' k ⟨v1, e1, x, n, t, b, e2, e3, e4, b1, e5, b2, e6, h⟩
      refine ⟨v1, e1, x, n, t, b, e2, e3, e4, b1, e5, b2, e6, ?_⟩
      cases b2 with
      | true =>
        rw [if_pos rfl] at h ⊢
        exact k _ _ h
      | false =>
        rw [if_neg Bool.false_ne_true] at h ⊢
        obtain ⟨v1, e1, x, n, t, b, e2, e3, e4, h⟩ := h
        exact ⟨v1, e1, x, n, t, b, e2, e3, e4, k _ _ h⟩
  · rintro σ H2 ⟨⟨v1, rfl⟩, s2⟩
    have hv2 := hv.mono s2
    refine ⟨_, rfl, _, _, rfl, .inl hv2, 1, _, rfl, ⟨by decide, by decide, by rw [List.length_map]; omega, by rw [List.length_map]; omega⟩, fun acc na => ?_⟩
    rw [List.length_map, show (((canon q F n).length : Int) - 1).toNat = (canon q F n).length - 1 by omega]
    refine comp_range (lo := 1) (n := (canon q F n).length - 1) (own := 1) (js := [0]) (fun j H4 => Same H2 H4 ∧ H4 acc = some (.lst ((List.replicate j true).map V.bl))) ⟨Same.new na, upd_same⟩ ?_ ?_ mono_name mono_yes ?_
    · rintro j H4 hj ⟨s4, hacc⟩
      refine yesN ?_
      have hv4 := hv2.mono s4
      have l1 : j < (canon q F n).length := by omega
      have l2 : j + 1 < (canon q F n).length := by omega
      obtain ⟨d, s, hne, er⟩ := (canon_mem hF).mp (List.getElem_mem l1)
      obtain ⟨d', s', hne', er'⟩ := (canon_mem hF).mp (List.getElem_mem l2)
      have lt := List.pairwise_iff_getElem.mp (canon_asc q n F) j (j + 1) l1 l2 (by omega)
      rw [er, er'] at lt
      have lt := lex_row.mp lt
      have a1 := at_row l1
      have a2 := at_row l2
      rw [er] at a1
      rw [er'] at a2
      have cut : ∀ (x : List D) (a b c : D) (H' : Hp) (vs : List V), x = [a, b, c] → Iss H' x vs → Iss H' [a, b] (cutV vs none (some (2 : Int))) := fun x a b c H' vs e h => by
        rw [cut_two]
        subst e
        exact h.take 2
      have cut3 : ∀ (vs : List V) (x : List D), vs.length = x.length → x.length = 3 → ¬ (HT.sIx vs.length 0 none = 0 ∧ HT.sIx vs.length vs.length (some (2 : Int)) = vs.length) := fun vs x e1 e2 h => by
        have := h.2
        rw [show (2 : Int) = ((2 : Nat) : Int) from rfl, HT.sIx_nat] at this
        omega
      refine ⟨_, rfl, _, rfl, _, _, rfl, rfl, _, (j : Int), _, hv4, congrArg V.int (show (1 : Int) + (j : Int) - 1 = (j : Int) by omega), a1, fun u hu => ⟨2, rfl, _, [.i (d : Int), .i (s : Int)], hu, fun H' vs h => cut _ _ _ (.i (F d s)) H' vs rfl h, fun vs e h => absurd h (cut3 vs _ e rfl), fun u1 H5 s5 hu1 => ?_⟩⟩
      refine ⟨_, rfl, _, rfl, _, ((j + 1 : Nat) : Int), _, hv4.mono s5, congrArg V.int (show (1 : Int) + (j : Int) = ((j + 1 : Nat) : Int) by omega), a2, fun u hu => ⟨2, rfl, _, [.i (d' : Int), .i (s' : Int)], hu, fun H' vs h => cut _ _ _ (.i (F d' s')) H' vs rfl h, fun vs e h => absurd h (cut3 vs _ e rfl), fun u2 H6 s6 hu2 => ?_⟩⟩
      refine ⟨1, true, lt_two (hu1.mono s6) hu2 (by omega), by decide, acc, _, _, rfl, rfl, s6 _ _ (s5 _ _ hacc), small1000 (by rw [List.length_map, List.length_replicate]; omega), ((s4.trans s5).trans s6).put na, ?_⟩
      rw [upd_same, List.replicate_succ', List.map_append]
      rfl
    · rintro H4 ⟨s4, hacc⟩
      refine ⟨acc, List.replicate _ true, rfl, SqL.of hacc, ?_⟩
      rw [show (List.replicate ((canon q F n).length - 1) true).all id = true by simp]
      exact kk H4 (s2.trans s4)
    · rintro σ H R R' k ⟨v1, e1, v2, e2, i, j, e3, e4, xs, i2, d, h1, h2, h3, h⟩
      refine ⟨v1, e1, v2, e2, i, j, e3, e4, xs, i2, d, h1, h2, h3, fun u hu => ?_⟩
      obtain ⟨i3, e5, x1, x2, h4, h5, h6, h7⟩ := h u hu
      refine ⟨i3, e5, x1, x2, h4, h5, h6, fun u1 H5 s5 hu1 => ?_⟩
      obtain ⟨v1, e1, v2, e2, xs, i2, d, h1, h2, h3, h⟩ := h7 u1 H5 s5 hu1
      refine ⟨v1, e1, v2, e2, xs, i2, d, h1, h2, h3, fun u hu => ?_⟩
      obtain ⟨i3, e5, x1, x2, h4, h5, h6, h7⟩ := h u hu
      refine ⟨i3, e5, x1, x2, h4, h5, h6, fun u2 H6 s6 hu2 => ?_⟩
      obtain ⟨dd, ee, hl, hd, hq⟩ := h7 u2 H6 s6 hu2
      exact ⟨dd, ee, hl, hd, k _ _ hq⟩
theorem ok__law_sizes : OKQ T.X__law_sizes P w base 2 spSizes := by
  refine FbO T.X__law_sizes sc__law_sizes fun _ _ _ _ H vs Q E hr h => ?_
  obtain ⟨b, z, rfl, hb, z0, kk⟩ := h
  refine ⟨_, (pss_one (ps_ret (pe_ix ix_listN (pe_lstN (pa_cons (pe_tupN (pa_cons pe_int (pa_cons pe_int (pa_cons (pe_op op_sub (pe_op op_pow pe_int pe_int) pe_int) pa_nil)))) (pa_cons (pe_tupN (pa_cons pe_int (pa_cons pe_int (pa_cons pe_int pa_nil)))) (pa_cons (pe_tupN (pa_cons pe_int (pa_cons pe_int (pa_cons pe_int pa_nil)))) (pa_cons (pe_tupN (pa_cons pe_int (pa_cons pe_int (pa_cons pe_int pa_nil)))) pa_nil))))) (pcq (ok__law_digit T) hr T.X__law_digit (pa_cons (pv 0) (pa_cons pe_int pa_nil))) (fun _ _ => rfl)))), ?_⟩
  refine ⟨10, 12, rfl, rfl, ⟨by decide, by decide, by decide⟩, _, _, rfl, rfl, (zB rfl), fun q1 H1 n1 s1 h1 => ?_⟩
  refine ⟨(zB rfl), fun q2 H2 n2 s2 h2 => ⟨(zB rfl), fun q3 H3 n3 s3 h3 => ⟨(zB rfl), fun q4 H4 n4 s4 h4 => ⟨(zB rfl), fun l H5 nl s5 hl => ?_⟩⟩⟩⟩
  have sb := (((s1.trans s2).trans s3).trans s4).trans s5
  refine ⟨_, rfl, b, 4, z, rfl, sb _ _ hb, z0, by decide, by decide, fun y z' y0 y1 z'0 => ?_⟩
  have lb : l ≠ b := by rintro rfl; rw [(((s1.trans s2).trans s3).trans s4) _ _ hb] at nl; cases nl
  have nb : ∀ c xs, H5 c = some (.tup xs) → upd H5 b (.lst [.int z']) c = some (.tup xs) := fun c xs e => by
    rw [upd_ne (by rintro rfl; rw [sb _ _ hb] at e; cases e)]
    exact e
  have t1 := is_tI (xs := [1, 20, 10 ^ 12 - 1]) (nb _ _ (s5 _ _ (s4 _ _ (s3 _ _ (s2 _ _ h1)))))
  have t2 := is_tI (xs := [2, 10, 99]) (nb _ _ (s5 _ _ (s4 _ _ (s3 _ _ h2))))
  have t3 := is_tI (xs := [3, 5, 40]) (nb _ _ (s5 _ _ (s4 _ _ h3)))
  have t4 := is_tI (xs := [4, 3, 9]) (nb _ _ (s5 _ _ h4))
  have hL : Is (upd H5 b (.lst [.int z'])) (.l ([[1, 20, 10 ^ 12 - 1], [2, 10, 99], [3, 5, 40], [4, 3, 9]].map tI)) (.ref l) := is_l (by rw [upd_ne lb]; exact hl) (iss_cons t1 (iss_cons t2 (iss_cons t3 (iss_cons t4 iss_nil))))
  have bt : But b H (upd H5 b (.lst [.int z'])) := (But.of_same sb).trans But.upd
  obtain ⟨m, rfl⟩ := Int.eq_ofNat_of_zero_le y0
  have : m = 0 ∨ m = 1 ∨ m = 2 ∨ m = 3 := by omega
  rcases this with e | e | e | e <;> subst e
  · exact ⟨_, _, _, hL, rfl, rfl, fun u hu => kk u 1 20 (10 ^ 12 - 1) z' _ bt upd_same z'0 hu (by decide) (by decide) (by decide) (by decide) (by decide)⟩
  · exact ⟨_, _, _, hL, rfl, rfl, fun u hu => kk u 2 10 99 z' _ bt upd_same z'0 hu (by decide) (by decide) (by decide) (by decide) (by decide)⟩
  · exact ⟨_, _, _, hL, rfl, rfl, fun u hu => kk u 3 5 40 z' _ bt upd_same z'0 hu (by decide) (by decide) (by decide) (by decide) (by decide)⟩
  · exact ⟨_, _, _, hL, rfl, rfl, fun u hu => kk u 4 3 9 z' _ bt upd_same z'0 hu (by decide) (by decide) (by decide) (by decide) (by decide)⟩
theorem tup_but {b : Addr} {H H' : Hp} {zs : List V} {x : List Int} {v : V} (hb : H b = some (.lst zs)) (k : But b H H') (h : Is H (tI x) v) : Is H' (tI x) v := by
  obtain ⟨a, rfl, ha⟩ := of_tI h
  exact is_tI (k _ _ ha (by rintro rfl; rw [hb] at ha; cases ha))
theorem ok__law_table : OKQ T.X__law_table P w base 2 spTable := by
  refine FbO T.X__law_table sc__law_table fun _ _ _ _ H vs Q E hr h => ?_
  obtain ⟨b, z, v, n, q, B, sg, rfl, hb, z0, hv, hq1, hq2, hq3, B1, B2, kk⟩ := h
  refine ⟨_, (pss_cons (pSA (i := 3) sc__law_table.nd (pe_lstN pa_nil))
    (pss_cons (ps_for PassesOwn.never rfl (pi_range2 (by rfl) T.n_range (pa_cons pe_int (pa_cons (pe_op op_add (pe_ix ix_tupN (pv 1) pe_int (fun _ _ => rfl)) pe_int) pa_nil))) (pGA (i := 4) sc__law_table.nd) (pss_one (ps_for PassesOwn.never rfl (pi_range2 (by rfl) T.n_range (pa_cons pe_int (pa_cons (pe_op op_add (pe_ix ix_tupN (pv 1) pe_int (fun _ _ => rfl)) pe_int) pa_nil))) (pGA (i := 5) sc__law_table.nd) (pss_one (ps_if (pt_cmpR op_gt (pcq (ok__law_digit T) hr T.X__law_digit (pa_cons (pv 0) (pa_cons pe_int pa_nil))) pe_int (nomark _)) (pss_cons (pSA (i := 6) sc__law_table.nd (pe_op op_add pe_int (pcq (ok__law_digit T) hr T.X__law_digit (pa_cons (pv 0) (pa_cons (pe_ix ix_tupN (pv 1) pe_int (fun _ _ => rfl)) pa_nil)))))
    (pss_cons (ps_if (pw_and (pt_val (pv 2)) (pw_and1 (pt_cmpR op_eq (pcq (ok__law_digit T) hr T.X__law_digit (pa_cons (pv 0) (pa_cons pe_int pa_nil))) pe_int (nomark _)))).pt (pss_one (pSA (i := 6) sc__law_table.nd (pe_op op_sub pe_int (pv 6)))) pss_nil)
    (pss_one (ps_expr (pe_bm PySem.F.plainAttrs_list PySem.F.slot_list_append PySem.F.type_list_append mt_append (pv 3) (pa_cons (pe_tupN (pa_cons (pv 4) (pa_cons (pv 5) (pa_cons (pv 6) pa_nil)))) pa_nil)))))) pss_nil)))))
    (pss_one (ps_ret (pv 3))))), ?_⟩
  refine ⟨Nat.zero_le _, fun l H1 nl s1 hl => ?_⟩
  have lb : l ≠ b := by rintro rfl; rw [hb] at nl; cases nl
  have q20 : q ≤ 20 := by
    have : q * 1 ≤ q * n := Nat.mul_le_mul_left q hq2
    omega
  have ti0 : TI H b l q B sg 0 0 H1 := ⟨But.of_same s1, ⟨z, s1 _ _ hb, z0⟩, [], [], hl, iss_nil, List.Pairwise.nil, Nat.zero_le _, fun _ h => nomatch h⟩
  have keep : ∀ {i j : Nat} {H2 : Hp}, TI H b l q B sg i j H2 → Is H2 (tI [(n : Int), (q : Int), B]) v := fun t => tup_but hb t.1 hv
  refine ⟨_, rfl, _, 0, .i (n : Int), keep ti0, rfl, rfl, fun u hu => ?_⟩
  rw [of_i hu]
  refine ⟨_, _, rfl, rfl, 1, _, rfl, ⟨by decide, by decide, by omega, by omega⟩, ?_⟩
  rw [show ((n : Int) + 1 - 1).toNat = n by omega]
  refine for_range (lo := 1) (n := n) (fun i σ H2 => (∃ v4 v5 v6, σ = [some (.ref b), some v, some (.bl sg), some (.ref l), v4, v5, v6]) ∧ TI H b l q B sg i 0 H2) ⟨⟨none, none, none, rfl⟩, ti0⟩ ?_ ?_
  · rintro i σ H2 hi ⟨⟨v4, v5, v6, rfl⟩, ti2⟩
    rw [show (1 : Int) + (i : Int) = ((i + 1 : Nat) : Int) by omega]
    refine ⟨_, rfl, _, 1, .i (q : Int), keep ti2, rfl, rfl, fun u hu => ?_⟩
    rw [of_i hu]
    refine ⟨_, _, rfl, rfl, 1, _, rfl, ⟨by decide, by decide, by omega, by omega⟩, ?_⟩
    rw [show ((q : Int) + 1 - 1).toNat = q by omega]
    refine for_range (lo := 1) (n := q) (fun j σ H3 => (∃ v5 v6, σ = [some (.ref b), some v, some (.bl sg), some (.ref l), some (.int ((i + 1 : Nat) : Int)), v5, v6]) ∧ TI H b l q B sg i j H3) ⟨⟨_, _, rfl⟩, ti2⟩ ?_ ?_
    · rintro j σ H3 hj ⟨⟨v5, v6, rfl⟩, ti3⟩
      rw [show (1 : Int) + (j : Int) = ((j + 1 : Nat) : Int) by omega]
      obtain ⟨zz, hb3, zz0⟩ := ti3.2.1
      refine ⟨_, rfl, b, 3, zz, rfl, hb3, zz0, by decide, by decide, fun y z1 y0 y1 z10 => ⟨_, _, rfl, rfl, _, rfl, iteD (fun c => ?_) (fun c => ?_)⟩⟩
      · have ti4 := ti3.dig lb z10
        refine ⟨_, rfl, _, rfl, _, 2, .i B, keep ti4, rfl, rfl, fun u hu => ?_⟩
        rw [of_i hu]
        refine ⟨b, B, z1, rfl, upd_same, z10, by omega, Int.le_trans B2 (by decide), fun y2 z2 y20 y21 z20 => ⟨_, _, rfl, rfl, ?_⟩⟩
        have ti5 := ti4.dig lb z20
        have hqi : q * i + j ≤ 100 := by
          have : q * i ≤ q * n := Nat.mul_le_mul_left q (by omega)
          omega
        generalize upd (upd H3 b (.lst [.int z1])) b (.lst [.int z2]) = H5 at ti5 ⊢
        cases sg with
        | false =>
          refine ⟨_, rfl, false, rfl, iteF ?_⟩
          obtain ⟨_, _, vs, xs, hl5, _⟩ := id ti5
          refine ⟨_, rfl, .inl ⟨rfl, _, SqL.of hl5⟩, _, rfl, _, rfl, _, rfl, (zB rfl), fun t H6 nt s6 ht => ?_⟩
          obtain ⟨ws, e1, e2, e3⟩ := ti5.add nl lb nt s6 ht hj ⟨by omega, by omega, by omega, fun _ => by omega⟩
          exact ⟨l, ws, .ref t, rfl, rfl, e1, small1000 (by omega), ⟨_, _, rfl⟩, e3⟩
        | true =>
          obtain ⟨z3, hb5, z30⟩ := ti5.2.1
          refine ⟨_, rfl, true, rfl, iteT ⟨_, rfl, b, 2, z3, rfl, hb5, z30, by decide, by decide, fun y3 z4 y30 y31 z40 => ⟨rfl, _, rfl, iteE (fun c => ?_) (fun c => ?_)⟩⟩⟩
          · have ti6 := ti5.dig lb z40
            generalize upd H5 b (.lst [.int z4]) = H5b at ti6 ⊢
            obtain ⟨_, _, vs, xs, hl5, _⟩ := id ti6
            refine ⟨_, rfl, _, _, rfl, rfl, ?_⟩
            refine ⟨_, rfl, .inl ⟨rfl, _, SqL.of hl5⟩, _, rfl, _, rfl, _, rfl, (zB rfl), fun t H6 nt s6 ht => ?_⟩
            obtain ⟨ws, e1, e2, e3⟩ := ti6.add nl lb nt s6 ht hj ⟨by omega, by omega, by omega, fun z => nomatch z⟩
            exact ⟨l, ws, .ref t, rfl, rfl, e1, small1000 (by omega), ⟨_, _, rfl⟩, e3⟩
          · have ti6 := ti5.dig lb z40
            generalize upd H5 b (.lst [.int z4]) = H5b at ti6 ⊢
            obtain ⟨_, _, vs, xs, hl5, _⟩ := id ti6
            refine ⟨_, rfl, .inl ⟨rfl, _, SqL.of hl5⟩, _, rfl, _, rfl, _, rfl, (zB rfl), fun t H6 nt s6 ht => ?_⟩
            obtain ⟨ws, e1, e2, e3⟩ := ti6.add nl lb nt s6 ht hj ⟨by omega, by omega, by omega, fun z => nomatch z⟩
            exact ⟨l, ws, .ref t, rfl, rfl, e1, small1000 (by omega), ⟨_, _, rfl⟩, e3⟩
      · exact ⟨⟨_, _, rfl⟩, (ti3.dig lb z10).skip⟩
    · rintro σ H3 ⟨⟨v5, v6, rfl⟩, ti3⟩
      exact ⟨⟨_, _, _, rfl⟩, ti3.next⟩
  · rintro σ H2 ⟨⟨v4, v5, v6, rfl⟩, ti2⟩
    obtain ⟨F, f1, f2, f3, f4, f5⟩ := ti2.done B1 B2
    exact ⟨_, rfl, kk l F H2 f1 nl f2 f3 f4 f5⟩
theorem Wh.deg {g : Nat} {N W : Nat → Nat → Int} (h : Wh g N W) {d s : Nat} (hs : W d s ≠ 0) : 1 ≤ d ∧ d ≤ g := by
  rw [h] at hs
  by_cases e : 1 ≤ d ∧ d ≤ g
  · exact e
  · rw [if_neg e] at hs; exact absurd rfl hs
theorem Co.deg {g : Nat} {N W : Nat → Nat → Int} (h : Co g N W) {d s : Nat} (hs : W d s ≠ 0) : 1 ≤ d ∧ d ≤ g := by
  rw [h] at hs
  by_cases e : 1 ≤ d ∧ d ≤ g
  · exact e
  · rw [if_neg e] at hs; exact absurd rfl hs
theorem rd_same {H H' : Hp} {a : Addr} {o : HO} (s : Same H H') (h : Rd H a o) : Rd H' a o := by
  rcases h with h | ⟨o', h⟩
  · exact .inl (s _ _ h)
  · exact .inr ⟨o', s _ _ h⟩
theorem ok__law_numbers : OKQ T.X__law_numbers P w base 1 spNum := by
  refine FbO T.X__law_numbers sc__law_numbers fun cdv A outer s H vs Q E hr h => ?_
  obtain ⟨v, q, n, F, rfl, hv, hq, hF, kk⟩ := h
  refine ⟨_, (pss_cons (pSA (i := 1) sc__law_numbers.nd pe_dnewT)
    (pss_cons (ps_for PassesOwn.never rfl (pi_list (pv 0)) (pg_tup rfl (pgs_cons (pGA (i := 2) sc__law_numbers.nd) (pgs_cons (pGA (i := 3) sc__law_numbers.nd) (pgs_cons (pGA (i := 4) sc__law_numbers.nd) pgs_nil)))) (pss_one (ps_dput (hu_of hr) (pv 1) (pe_tupN (pa_cons (pv 2) (pa_cons (pv 3) pa_nil))) (pv 4) rfl)))
    (pss_one (ps_ret (pv 1))))), ?_⟩
  obtain ⟨la, lvs, rfl, hla, hli⟩ := of_l hv
  have llen : lvs.length = (canon q F n).length := by rw [hli.length, List.length_map]
  have hlen := canon_len (F := F) hq
  refine fun f nf => ⟨_, rfl, la, rfl, ⟨_, SqL.of (Same.new nf _ _ hla)⟩, for_list (xs := lvs) (fun j σ H3 => (∃ v2 v3 v4, σ = [some (.ref la), some (.ref f), v2, v3, v4]) ∧ Same H H3 ∧ H3 f = some (.dT (numK ((canon q F n).take j)))) ⟨⟨none, none, none, rfl⟩, Same.new nf, upd_same⟩ (fun j σ H3 _ h => SqL.of (h.2.1 _ _ hla)) ?_ ?_⟩
  · rintro j y σ H3 hj ⟨⟨v2, v3, v4, rfl⟩, s3, hf3⟩
    obtain ⟨r, hr', hy⟩ := issM hli hj
    obtain ⟨d, s, hne, rfl⟩ := (canon_mem hF).mp (List.mem_of_getElem? hr')
    obtain ⟨ya, rfl, hya⟩ := of_tI hy
    have jl : j < (canon q F n).length := (List.getElem?_eq_some_iff.mp hr').1
    refine ⟨ya, _, rfl, SqT.of (s3 _ _ hya), rfl, _, _, rfl, _, _, rfl, _, _, rfl, rfl, ?_⟩
    refine ⟨_, rfl, _, rfl, _, rfl, _, rfl, (zB rfl), fun t H4 nt s4 ht => ⟨f, _, rfl, DPut.t (k := [.inl (d : Int), .inl (s : Int)]) (s4 _ _ hf3) ht ?_, ?_⟩⟩
    · rw [numK_len, List.length_take]
      exact small1000 (by omega)
    rw [num_put hF hr']
    exact ⟨⟨_, _, _, rfl⟩, (s3.trans s4).put nf, upd_same⟩
  · rintro σ H3 ⟨⟨v2, v3, v4, rfl⟩, s3, hf3⟩
    rw [llen, List.take_length] at hf3
    exact ⟨_, rfl, kk f H3 nf s3 hf3⟩
theorem lsE_s {W C : Nat → Nat → Int} {d s e j : Nat} : lsE W C d s e (j + 1) = lsE W C d s e j + W e (j + 1) * rst C d s e (j + 1) * chS s (j + 1) := rfl
theorem lsE_z {W C : Nat → Nat → Int} {d s e j : Nat} (h : W e (j + 1) = 0 ∨ rst C d s e (j + 1) = 0) : lsE W C d s e (j + 1) = lsE W C d s e j := by
  rw [lsE_s]
  rcases h with h | h <;> rw [h] <;> simp
theorem rst_mul {W C : Nat → Nat → Int} (cm : ∀ e r e' r', CMul (W e r) (C e' r')) {d s e r e' r' : Nat} : CMul (W e r) (rst C d s e' r') := by
  unfold rst
  split
  · split <;> exact .inr ⟨by decide, by decide⟩
  · exact cm _ _ _ _
theorem ok__law_sum : OKQ T.X__law_sum P w base 2 spSum := by
  refine FbO T.X__law_sum sc__law_sum fun cdv A outer s H vs Q E hr h => ?_
  obtain ⟨wa, ca, W, C, d, s, rfl, ⟨kw, hw, vw⟩, ⟨kc, hc, vc⟩, d1, d4, s1, s81, w20, cm, kk⟩ := h
  refine ⟨_, (pss_cons (pSA (i := 4) sc__law_sum.nd pe_int)
    (pss_cons (ps_for PassesOwn.never rfl (pi_range2 (by rfl) T.n_range (pa_cons pe_int (pa_cons (pe_op op_add (pv 2) pe_int) pa_nil))) (pGA (i := 5) sc__law_sum.nd) (pss_one (ps_for PassesOwn.never rfl (pi_range2 (by rfl) T.n_range (pa_cons pe_int (pa_cons (pe_op op_add (pv 3) pe_int) pa_nil))) (pGA (i := 6) sc__law_sum.nd) (pss_cons (pSA (i := 7) sc__law_sum.nd (pe_dget2 (hu_of hr) (pv 1) (pe_tupN (pa_cons (pe_op op_sub (pv 2) (pv 5)) (pa_cons (pe_op op_sub (pv 3) (pv 6)) pa_nil))) pe_int ⟨rfl, rfl, rfl, rfl⟩))
    (pss_cons (ps_if (pt_cmpR op_eq (pv 5) (pv 2) (nomark _)) (pss_one (pSA (i := 7) sc__law_sum.nd (pe_callTy call_int1 (by rfl) T.n_int boot_int (pa_cons (pe_cmpR op_eq (pv 6) (pv 3) (nomark _)) pa_nil)))) pss_nil)
    (pss_one (ps_if (pw_and (pt_cmpR op_ne (pv 7) pe_int (nomark _)) (pw_and1 (pt_cmp (pc_din (hu_of hr) (pe_tupN (pa_cons (pv 5) (pa_cons (pv 6) pa_nil))) (pv 0)) rfl))).pt (pss_one (pSA (i := 4) sc__law_sum.nd (pe_op op_add (pv 4) (pe_op op_mul (pe_op op_mul (pe_dget (hu_of hr) (pv 0) (pe_tupN (pa_cons (pv 5) (pa_cons (pv 6) pa_nil))) (fun _ _ => rfl)) (pv 7)) (pcq (ok__law_choose T) hr T.X__law_choose (pa_cons (pe_op op_sub (pv 3) pe_int) (pa_cons (pe_op op_sub (pv 6) pe_int) pa_nil))))))) pss_nil)))))))
    (pss_one (ps_ret (pv 4))))), ?_⟩
  refine ⟨_, rfl, _, _, rfl, rfl, 1, _, rfl, ⟨by decide, by decide, by omega, by omega⟩, ?_⟩
  rw [show ((d : Int) + 1 - 1).toNat = d by omega]
  refine for_range (lo := 1) (n := d) (fun i σ H2 => (∃ v5 v6 v7, σ = [some (.ref wa), some (.ref ca), some (.int d), some (.int s), some (.int (sumN (fun i => lsE W C d s (i + 1) s) i)), v5, v6, v7]) ∧ Same H H2) ⟨⟨none, none, none, rfl⟩, Same.refl _⟩ ?_ ?_
  · rintro i σ H2 hi ⟨⟨v5, v6, v7, rfl⟩, s2⟩
    rw [show (1 : Int) + (i : Int) = ((i + 1 : Nat) : Int) by omega]
    refine ⟨_, rfl, _, _, rfl, rfl, 1, _, rfl, ⟨by decide, by decide, by omega, by omega⟩, ?_⟩
    rw [show ((s : Int) + 1 - 1).toNat = s by omega]
    refine for_range (lo := 1) (n := s) (fun j σ H3 => (∃ v6 v7, σ = [some (.ref wa), some (.ref ca), some (.int d), some (.int s), some (.int (sumN (fun i => lsE W C d s (i + 1) s) i + lsE W C d s (i + 1) j)), some (.int ((i + 1 : Nat) : Int)), v6, v7]) ∧ Same H H3) ⟨⟨v6, v7, by rw [show lsE W C d s (i + 1) 0 = 0 from rfl, Int.add_zero]; rfl⟩, s2⟩ ?_ ?_
    · rintro j σ H3 hj ⟨⟨v6, v7, rfl⟩, s3⟩
      rw [show (1 : Int) + (j : Int) = ((j + 1 : Nat) : Int) by omega]
      have hc3 : Rd H3 ca (.dT kc) := rd_same s3 hc
      have hw3 : Rd H3 wa (.dT kw) := rd_same s3 hw
      have ed : (d : Int) - ((i + 1 : Nat) : Int) = ((d - (i + 1) : Nat) : Int) := by omega
      have es : (s : Int) - ((j + 1 : Nat) : Int) = ((s - (j + 1) : Nat) : Int) := by omega
      refine ⟨_, rfl, ca, rfl, .inr ⟨_, hc3⟩, ?_⟩
      refine ⟨_, rfl, _, rfl, _, _, rfl, rfl, _, rfl, _, rfl, _, _, rfl, rfl, (zB rfl), fun t1 H4 nt1 s4 ht1 => ?_⟩
      dsimp only at ht1
      rw [ed, es] at ht1
      refine ⟨_, .inr ⟨kc, [.inl ((d - (i + 1) : Nat) : Int), .inl ((s - (j + 1) : Nat) : Int)], t1, rd_same s4 hc3, rfl, ht1, rfl⟩, ?_⟩
      have ev : (valV kc [.inl ((d - (i + 1) : Nat) : Int), .inl ((s - (j + 1) : Nat) : Int)]).getD (.int 0) = .int (C (d - (i + 1)) (s - (j + 1))) := by
        rw [vc]
        split
        · rename_i z; rw [z]; rfl
        · rfl
      dsimp only
      rw [ev]
      refine ⟨_, rfl, _, rfl, rfl, _, rfl, iteE (fun e => ?_) (fun e => ?_)⟩
      · refine ⟨_, rfl, _, rfl, rfl, .inr ⟨_, rfl, ?_⟩⟩
        have e' : i + 1 = d := by omega
        have er : (if decide (V.int ((j + 1 : Nat) : Int) = V.int (s : Int)) = true then (1 : Int) else 0) = rst C d s (i + 1) (j + 1) := by
          unfold rst
          rw [if_pos e']
          by_cases h : j + 1 = s
          · have : decide (V.int ((j + 1 : Nat) : Int) = V.int (s : Int)) = true := decide_eq_true (by rw [h])
            rw [this, if_pos h]; rfl
          · have : decide (V.int ((j + 1 : Nat) : Int) = V.int (s : Int)) = false := decide_eq_false fun z => h (by have := V.int.inj z; omega)
            rw [this, if_neg h]; rfl
        dsimp only
        rw [er]
        refine ⟨_, rfl, rfl, _, rfl, iteNE (fun e2 => ?_) (fun e2 => ?_)⟩
        · refine ⟨_, rfl, _, rfl, (zB rfl), fun t2 H5 nt2 s5 ht2 => ⟨_, rfl, wa, _, rfl, .inr ⟨kw, [.inl ((i + 1 : Nat) : Int), .inl ((j + 1 : Nat) : Int)], t2, rd_same (s4.trans s5) hw3, rfl, ht2, rfl⟩, ?_⟩⟩
          rw [vw]
          by_cases hw0 : W (i + 1) (j + 1) = 0
          · rw [if_pos hw0]
            exact ⟨_, rfl, iteF ⟨⟨some (.int ((j + 1 : Nat) : Int)), some (.int (rst C d s (i + 1) (j + 1))), by rw [lsE_z (.inl hw0)]; rfl⟩, (s3.trans s4).trans s5⟩⟩
          · rw [if_neg hw0]
            refine ⟨_, rfl, iteT ?_⟩
            have r20 := w20 _ _ hw0
            obtain ⟨c0, c1⟩ := chS_ok (s := s) (r := j + 1) s1 s81 (by omega) r20
            refine ⟨_, rfl, _, rfl, _, rfl, _, rfl, (zB rfl), fun t3 H6 nt3 s6 ht3 => ⟨wa, .int (W (i + 1) (j + 1)), rfl, .inr ⟨kw, [.inl ((i + 1 : Nat) : Int), .inl ((j + 1 : Nat) : Int)], t3, rd_same ((s4.trans s5).trans s6) hw3, rfl, ht3, by rw [vw, if_neg hw0]⟩, _, rfl, _, _, rfl, rfl, rst_mul cm, _, rfl, _, _, rfl, rfl, _, rfl, _, _, rfl, rfl, ?_⟩⟩
            refine ⟨(s : Int) - 1, ((j + 1 : Nat) : Int) - 1, rfl, by omega, by omega, _, _, rfl, rfl, .inr ⟨Int.lt_of_lt_of_le (by decide) c0, Int.lt_trans c1 (by decide)⟩, _, _, rfl, rfl, ⟨some (.int ((j + 1 : Nat) : Int)), some (.int (rst C d s (i + 1) (j + 1))), ?_⟩, ((s3.trans s4).trans s5).trans s6⟩
            rw [lsE_s, ← Int.add_assoc]
            rfl
        · exact ⟨⟨some (.int ((j + 1 : Nat) : Int)), some (.int (rst C d s (i + 1) (j + 1))), by rw [lsE_z (.inr e2)]; rfl⟩, s3.trans s4⟩
      · have er : C (d - (i + 1)) (s - (j + 1)) = rst C d s (i + 1) (j + 1) := by
          unfold rst
          rw [if_neg (by omega)]
        rw [er]
        refine ⟨_, rfl, rfl, _, rfl, iteNE (fun e2 => ?_) (fun e2 => ?_)⟩
        · refine ⟨_, rfl, _, rfl, (zB rfl), fun t2 H5 nt2 s5 ht2 => ⟨_, rfl, wa, _, rfl, .inr ⟨kw, [.inl ((i + 1 : Nat) : Int), .inl ((j + 1 : Nat) : Int)], t2, rd_same (s4.trans s5) hw3, rfl, ht2, rfl⟩, ?_⟩⟩
          rw [vw]
          by_cases hw0 : W (i + 1) (j + 1) = 0
          · rw [if_pos hw0]
            exact ⟨_, rfl, iteF ⟨⟨some (.int ((j + 1 : Nat) : Int)), some (.int (rst C d s (i + 1) (j + 1))), by rw [lsE_z (.inl hw0)]; rfl⟩, (s3.trans s4).trans s5⟩⟩
          · rw [if_neg hw0]
            refine ⟨_, rfl, iteT ?_⟩
            have r20 := w20 _ _ hw0
            obtain ⟨c0, c1⟩ := chS_ok (s := s) (r := j + 1) s1 s81 (by omega) r20
            refine ⟨_, rfl, _, rfl, _, rfl, _, rfl, (zB rfl), fun t3 H6 nt3 s6 ht3 => ⟨wa, .int (W (i + 1) (j + 1)), rfl, .inr ⟨kw, [.inl ((i + 1 : Nat) : Int), .inl ((j + 1 : Nat) : Int)], t3, rd_same ((s4.trans s5).trans s6) hw3, rfl, ht3, by rw [vw, if_neg hw0]⟩, _, rfl, _, _, rfl, rfl, rst_mul cm, _, rfl, _, _, rfl, rfl, _, rfl, _, _, rfl, rfl, ?_⟩⟩
            refine ⟨(s : Int) - 1, ((j + 1 : Nat) : Int) - 1, rfl, by omega, by omega, _, _, rfl, rfl, .inr ⟨Int.lt_of_lt_of_le (by decide) c0, Int.lt_trans c1 (by decide)⟩, _, _, rfl, rfl, ⟨some (.int ((j + 1 : Nat) : Int)), some (.int (rst C d s (i + 1) (j + 1))), ?_⟩, ((s3.trans s4).trans s5).trans s6⟩
            rw [lsE_s, ← Int.add_assoc]
            rfl
        · exact ⟨⟨some (.int ((j + 1 : Nat) : Int)), some (.int (rst C d s (i + 1) (j + 1))), by rw [lsE_z (.inr e2)]; rfl⟩, s3.trans s4⟩
    · rintro σ H3 ⟨⟨v6, v7, rfl⟩, s3⟩
      exact ⟨⟨_, _, _, rfl⟩, s3⟩
  · rintro σ H2 ⟨⟨v5, v6, v7, rfl⟩, s2⟩
    exact ⟨_, rfl, kk H2 s2⟩
theorem num_keys (xs : List (List Int)) : (numK xs).map (·.1) = (xs.map (·.take 2)).map (fun x => (x.map Sum.inl : List Key)) := by
  unfold numK
  rw [List.map_map, List.map_map]
  exact List.map_congr_left fun _ _ => rfl
theorem ok__law_sums_hold : OKQ T.X__law_sums_hold P w base 3 spHold := by
  refine FbO T.X__law_sums_hold sc__law_sums_hold fun cdv A outer s H vs Q E hr h => ?_
  obtain ⟨wa, ca, W, C, q, n, m, g, rfl, hw, hc, szn, szm, fW, fC, q20, g4, w20, cm, eqs, kk⟩ := h
  refine ⟨_, (pss_cons (ps_for PassesOwn.never rfl (pi_range2 (by rfl) T.n_range (pa_cons pe_int (pa_cons (pe_op op_add (pv 2) pe_int) pa_nil))) (pGA (i := 4) sc__law_sums_hold.nd) (pss_one (ps_for PassesOwn.never rfl (pi_range2 (by rfl) T.n_range (pa_cons pe_int (pa_cons (pe_op op_add (pe_op op_mul (pv 4) (pv 3)) pe_int) pa_nil))) (pGA (i := 5) sc__law_sums_hold.nd) (pss_one (ps_if (pt_cmpR op_ne (pe_dget2 (hu_of hr) (pv 1) (pe_tupN (pa_cons (pv 4) (pa_cons (pv 5) pa_nil))) pe_int ⟨rfl, rfl, rfl, rfl⟩) (pcq (ok__law_sum T) hr T.X__law_sum (pa_cons (pv 0) (pa_cons (pv 1) (pa_cons (pv 4) (pa_cons (pv 5) pa_nil))))) (nomark _)) (pss_one (ps_ret pe_bl)) pss_nil)))))
    (pss_cons (ps_for PassesOwn.never rfl (pi_list (pe_op op_catN (pe_callTy (call_listT rfl) (by rfl) T.n_list boot_list (pa_cons (pv 0) pa_nil)) (pe_callTy (call_listT rfl) (by rfl) T.n_list boot_list (pa_cons (pv 1) pa_nil)))) (pg_tup rfl (pgs_cons (pGA (i := 4) sc__law_sums_hold.nd) (pgs_cons (pGA (i := 5) sc__law_sums_hold.nd) pgs_nil))) (pss_one (ps_if (pw_or (pt_cmpR op_gt (pv 5) (pe_op op_mul (pv 4) (pv 3)) (nomark _)) (pw_or (pt_cmpR op_lt (pv 5) pe_int (nomark _)) (pw_or1 (pt_cmpR op_lt (pv 4) pe_int (nomark _))))).pt (pss_one (ps_ret pe_bl)) pss_nil)))
    (pss_one (ps_ret pe_bl)))), ?_⟩
  refine ⟨_, rfl, _, _, rfl, rfl, 1, _, rfl, ⟨by decide, by decide, by omega, by omega⟩, ?_⟩
  rw [show ((g : Int) + 1 - 1).toNat = g by omega]
  refine for_range (lo := 1) (n := g) (fun i σ H2 => (∃ v4 v5, σ = [some (.ref wa), some (.ref ca), some (.int g), some (.int q), v4, v5]) ∧ Same H H2) ⟨⟨none, none, rfl⟩, Same.refl _⟩ ?_ ?_
  · rintro i σ H2 hi ⟨⟨v4, v5, rfl⟩, s2⟩
    rw [show (1 : Int) + (i : Int) = ((i + 1 : Nat) : Int) by omega]
    have em : ((i + 1 : Nat) : Int) * (q : Int) = ((q * (i + 1) : Nat) : Int) := by rw [Nat.mul_comm]; exact (Int.natCast_mul _ _).symm
    have q80 : q * (i + 1) ≤ 20 * 4 := Nat.mul_le_mul q20 (by omega)
    refine ⟨_, rfl, _, rfl, _, _, rfl, rfl, .inr ⟨by omega, by omega⟩, ((q * (i + 1) : Nat) : Int), 2, congrArg V.int em, rfl, 1, _, rfl, ⟨by decide, by decide, by omega, by omega⟩, ?_⟩
    rw [show (((q * (i + 1) : Nat) : Int) + 2 - 1).toNat = q * (i + 1) + 1 by omega]
    refine for_range (lo := 1) (n := q * (i + 1) + 1) (fun j σ H3 => (∃ v5, σ = [some (.ref wa), some (.ref ca), some (.int g), some (.int q), some (.int ((i + 1 : Nat) : Int)), v5]) ∧ Same H H3) ⟨⟨_, rfl⟩, s2⟩ ?_ ?_
    · rintro j σ H3 hj ⟨⟨v5, rfl⟩, s3⟩
      rw [show (1 : Int) + (j : Int) = ((j + 1 : Nat) : Int) by omega]
      refine ⟨_, rfl, ca, rfl, .inr ⟨_, .inl (s3 _ _ hc)⟩, _, rfl, _, rfl, (zB rfl), fun t1 H4 nt1 s4 ht1 => ?_⟩
      have s34 := s3.trans s4
      refine ⟨_, .inr ⟨_, [.inl ((i + 1 : Nat) : Int), .inl ((j + 1 : Nat) : Int)], t1, .inl (s34 _ _ hc), rfl, ht1, rfl⟩, ?_⟩
      have ev : (valV (numK (canon q C m)) [.inl ((i + 1 : Nat) : Int), .inl ((j + 1 : Nat) : Int)]).getD (.int 0) = .int (C (i + 1) (j + 1)) := by
        rw [num_val fC]
        split
        · rename_i z; rw [z]; rfl
        · rfl
      dsimp only
      rw [ev]
      refine ⟨_, rfl, _, rfl, _, rfl, _, rfl, wa, ca, W, C, i + 1, j + 1, rfl, ⟨_, .inl (s34 _ _ hw), num_val fW⟩, ⟨_, .inl (s34 _ _ hc), num_val fC⟩, by omega, by omega, by omega, by omega, w20, cm, fun H5 s5 => ?_⟩
      rw [← eqs (i + 1) (j + 1) (by omega) (by omega) (by omega) (by omega)]
      exact ⟨rfl, _, rfl, iteNE (fun h => absurd rfl h) (fun _ => ⟨⟨_, rfl⟩, s34.trans s5⟩)⟩
    · rintro σ H3 ⟨⟨v5, rfl⟩, s3⟩
      exact ⟨⟨_, _, rfl⟩, s3⟩
  · rintro σ H2 ⟨⟨v4, v5, rfl⟩, s2⟩
    have l1 := canon_len (F := W) szn
    have l2 := canon_len (F := C) szm
    refine ⟨_, rfl, wa, _, _, rfl, .inl (s2 _ _ hw), num_keys _, by rw [numK_len]; omega, fun p1 H3 np1 s3 hp1 => ?_⟩
    refine ⟨_, rfl, ca, _, _, rfl, .inl (s3 _ _ (s2 _ _ hc)), num_keys _, by rw [numK_len]; omega, fun p2 H4 np2 s4 hp2 => ?_⟩
    refine ⟨_, _, hp1.mono s4, hp2, by simp only [List.length_map]; exact Nat.le_trans (Nat.add_le_add l1 l2) (by decide), fun p H5 np s5 hp => ?_⟩
    obtain ⟨_, lvs, e, hla, hli⟩ := of_l hp
    cases e
    refine ⟨p, rfl, ⟨_, SqL.of hla⟩, for_list (xs := lvs) (fun j σ H6 => (∃ v4 v5, σ = [some (.ref wa), some (.ref ca), some (.int g), some (.int q), v4, v5]) ∧ Same H5 H6) ⟨⟨_, _, rfl⟩, Same.refl _⟩ (fun j σ H6 _ h => SqL.of (h.2 _ _ hla)) ?_ ?_⟩
    · rintro j y σ H6 hj ⟨⟨v4, v5, rfl⟩, s6⟩
      obtain ⟨dd, hdd, hy⟩ := hli.of_get hj
      have hm := List.mem_of_getElem? hdd
      obtain ⟨d, s, h1, h2, h3, rfl⟩ : ∃ d s : Nat, 1 ≤ d ∧ 1 ≤ s ∧ s ≤ q * d ∧ dd = tI [(d : Int), (s : Int)] := by
        have go : ∀ {F : Nat → Nat → Int} {k : Nat}, FOk q k F → dd ∈ ((canon q F k).map (·.take 2)).map tI → ∃ d s : Nat, 1 ≤ d ∧ 1 ≤ s ∧ s ≤ q * d ∧ dd = tI [(d : Int), (s : Int)] := by
          intro F k hF hm
          obtain ⟨x, hx, rfl⟩ := List.mem_map.mp hm
          obtain ⟨r, hr, rfl⟩ := List.mem_map.mp hx
          obtain ⟨d, s, hne, rfl⟩ := (canon_mem hF).mp hr
          obtain ⟨a1, a2, a3, a4⟩ := hF d s hne
          exact ⟨d, s, a1, a3, a4, rfl⟩
        rcases List.mem_append.mp hm with hm | hm
        · exact go fW hm
        · exact go fC hm
      obtain ⟨ya, rfl, hya⟩ := of_tI hy
      have em : (d : Int) * (q : Int) = ((q * d : Nat) : Int) := by rw [Nat.mul_comm]; exact (Int.natCast_mul _ _).symm
      refine ⟨ya, _, rfl, SqT.of (s6 _ _ hya), rfl, _, _, rfl, _, _, rfl, rfl, ?_⟩
      refine ⟨_, rfl, _, rfl, _, rfl, _, _, rfl, rfl, .inr ⟨by omega, by omega⟩, _, _, rfl, rfl, _, rfl, iteD (fun c => ?_) (fun _ => ?_)⟩
      · rw [em] at c
        omega
      · refine ⟨_, rfl, _, _, rfl, rfl, _, rfl, iteD (fun c => absurd c (by omega)) (fun _ => ⟨_, rfl, _, _, rfl, rfl, _, rfl, iteD (fun c => absurd c (by omega)) (fun _ => ?_)⟩)⟩
        exact ⟨⟨_, _, rfl⟩, s6⟩
    · rintro σ H6 ⟨⟨v4, v5, rfl⟩, s6⟩
      exact kk H6 ((((s2.trans s3).trans s4).trans s5).trans s6)
theorem ok__law_refused : OKQ T.X__law_refused P w base 11 spRf := by
  refine T.X__law_refused.F.oky sc__law_refused (fun vs H Q E h => ?_) (fun cdv A outer s H vs Q E hr h hF => ?_)
  · obtain ⟨_, _, _, _, _, rfl, _⟩ := h
    rfl
  · obtain ⟨v, gv, q, n, F, rfl, hv, hq, hq20, hFo, hb, hgv, hn, kk⟩ := h
    refine ⟨_, (pss_cons (ps_try (i := 2) hF rfl sc__law_refused.nd rfl (by first | exact Or.inl rfl | exact Or.inr rfl) rfl (by rfl) T.m_CurveError (fun E pn z hp => (pss_one (ps_expr (pe_call (ok_counts_of T) (hr.mono (by decide)) (by rfl) T.X_counts_of.m T.X_counts_of.F.kp T.X_counts_of.B .nil hp (pa_cons (pv 0) (pa_cons (pv 1) pa_nil)))))) (fun e => (pss_cons (ps_if (pt_val (pe_callB (call_isxsK (K := K) rfl) (by rfl) T.n_isinstance boot_isinstance (pa_cons (pv 2) (pa_cons (pe_tupN (pa_cons (pe_glob (v := .ref T.c_NoDrawing) (by rfl) T.m_NoDrawing (by rfl)) (pa_cons (pe_glob (v := .ref T.c_NoEnds) (by rfl) T.m_NoEnds (by rfl)) (pa_cons (pe_glob (v := .ref T.c_NoNumber) (by rfl) T.m_NoNumber (by rfl)) (pa_cons (pe_glob (v := .ref T.c_NoText) (by rfl) T.m_NoText (by rfl)) pa_nil))))) pa_nil)))) (pss_one (ps_ret pe_bl)) pss_nil)
      (pss_one (ps_ret (pe_and (pe_callB (call_isxK (K := K) rfl) (by rfl) T.n_isinstance boot_isinstance (pa_cons (pv 2) (pa_cons (pe_glob (v := .ref T.c_NoBound) (by rfl) T.m_NoBound (by rfl)) pa_nil))) (pe_one (pe_callB (call_isxK (K := K) rfl) (by rfl) T.n_isinstance boot_isinstance (pa_cons (pv 2) (pa_cons (pe_bltn (v := .ty "ValueError") (by rfl) T.n_ValueError PyProof.Rows.Boot.«ValueError» (by rfl)) pa_nil))))))))))
      (pss_one (ps_ret pe_bl))), ?_⟩
    refine ⟨fun C _ H' => C = .ref T.c_NoBound ∧ Same H H', ⟨_, rfl, _, rfl, v, gv, q, n, F, rfl, hv, hq, hq20, hFo, hb, hgv, fun d ev d1 d4 => absurd ⟨_, ev, by omega, by omega⟩ hn, fun _ => ⟨rfl, Same.refl _⟩⟩, fun C e H' ⟨eC, sH⟩ he => ?_⟩
    cases eC
    refine ⟨T.e_NoBound_CurveError, _, rfl, (zB rfl), fun t H2 nt s2 ht2 => ?_⟩
    have hx := s2 _ _ (upd_same (H := H') (a := e) (o := excO T.c_NoBound e))
    refine ⟨e, _, t, _, _, false, rfl, hx, T.X_NoBound, ht2, rfl, T.ks_NoBound_0, false, rfl, iteF ?_⟩
    refine ⟨_, rfl, e, _, .ref T.c_NoBound, _, true, rfl, hx, T.X_NoBound, rfl, T.k_NoBound_NoBound, true, rfl, iteT ?_⟩
    exact ⟨_, rfl, e, _, .ty "ValueError", _, true, rfl, hx, T.X_NoBound, rfl, T.k_NoBound_ValueError, kk _ ((sH.trans (Same.new he)).trans s2)⟩
theorem ok_law : OKQ T.X_law P w base 12 (sp_law K) := by
  refine FbO T.X_law sc_law fun cdv A outer s H vs Q E hr h => ?_
  obtain ⟨a, ns, rfl, hS, hl, kk⟩ := h
  refine ⟨_, (pss_cons (pSA (i := 1) sc_law.nd (pe_lstN (pa_cons (pcq (ok__law_great T) hr T.X__law_great (pa_cons (pcq (ok__law_cell_at T) hr T.X__law_cell_at (pa_cons (pv 0) (pa_cons pe_int pa_nil))) pa_nil)) pa_nil)))
    (pss_cons (pSA (i := 2) sc_law.nd (pcq (ok__law_sizes T) hr T.X__law_sizes (pa_cons (pv 1) pa_nil)))
    (pss_cons (pSA (i := 3) sc_law.nd (pcq (ok__law_table T) hr T.X__law_table (pa_cons (pv 1) (pa_cons (pv 2) (pa_cons pe_bl pa_nil)))))
    (pss_cons (pSA (i := 4) sc_law.nd (pe_op op_add pe_int (pe_op op_mod (pcq (ok__law_cell_at T) hr T.X__law_cell_at (pa_cons (pv 0) (pa_cons pe_int pa_nil))) pe_int)))
    (pss_cons (ps_if (pt_not (pt_val (pcq (ok__law_refused T) hr T.X__law_refused (pa_cons (pe_callTy call_list_ofN (by rfl) T.n_list boot_list (pa_cons (pv 3) pa_nil)) (pa_cons (pcq (ok__law_odd T) hr T.X__law_odd (pa_cons (pcq (ok__law_cell_at T) hr T.X__law_cell_at (pa_cons (pv 0) (pa_cons pe_int pa_nil))) pa_nil)) pa_nil))))) (pss_one (ps_ret pe_bl)) pss_nil)
    (pss_cons (pSA (i := 5) sc_law.nd (pe_call (ok_counts_of T) (hr.mono (by decide)) (by rfl) T.X_counts_of.m T.X_counts_of.F.kp T.X_counts_of.B .nil passE0 (pa_cons (pe_callTy call_list_ofN (by rfl) T.n_list boot_list (pa_cons (pv 3) pa_nil)) (pa_cons (pv 4) pa_nil))))
    (pss_cons (ps_if (PW.pt (pw_or (pt_not (pt_val (pcq (ok__law_right T) hr T.X__law_right (pa_cons (pv 5) pa_nil)))) (pw_or1 (pt_val (pe_callB (call_any rfl) (by rfl) T.n_any boot_any (pa_cons (pe_compB (XN := ["_law_script", "_law_rest", "_law_sizes_here", "_law_table_here", "_law_greatest", "_law_told", "_law_last"]) (sc := defScope s_law) (N := ["_law_row", "_law_greatest"]) (own := 1) (js := [4]) rfl (by decide +kernel) rfl rfl (pi_list (pv 5)) (fun _ _ _ _ => (pg_name (i := 0) (show List.Nodup (["_law_row", "_law_greatest"] : List Str) by decide +kernel) rfl (Or.inl rfl) (.inr rfl))) (ownG_name (by decide)) (fun _ _ _ _ => pifs_nil) (fun _ _ _ _ => (pe_cmpR op_gt (pe_ix ix_tupN (pv 0) pe_int (fun _ _ => rfl)) (pv 1) (nomark _)))) pa_nil)))))) (pss_one (ps_ret pe_bl)) pss_nil)
    (pss_cons (ps_if (pt_not (pt_val (pcq (ok__law_sums_hold T) hr T.X__law_sums_hold (pa_cons (pcq (ok__law_numbers T) hr T.X__law_numbers (pa_cons (pv 3) pa_nil)) (pa_cons (pcq (ok__law_numbers T) hr T.X__law_numbers (pa_cons (pv 5) pa_nil)) (pa_cons (pv 4) (pa_cons (pe_ix ix_tupN (pv 2) pe_int (fun _ _ => rfl)) pa_nil))))))) (pss_one (ps_ret pe_bl)) pss_nil)
    (pss_cons (pSA (i := 5) sc_law.nd (pcq (ok_wholes_of T) hr T.X_wholes_of (pa_cons (pe_callTy call_list_ofN (by rfl) T.n_list boot_list (pa_cons (pv 3) pa_nil)) pa_nil)))
    (pss_cons (pSA (i := 6) sc_law.nd (pe_maxd rfl (by rfl) T.n_max (pa_cons (pe_compB (XN := ["_law_script", "_law_rest", "_law_sizes_here", "_law_table_here", "_law_greatest", "_law_told", "_law_last"]) (sc := defScope s_law) (N := ["_law_row"]) (own := 1) (js := []) rfl (by decide +kernel) rfl rfl (pi_list (pv 3)) (fun _ _ _ _ => (pg_name (i := 0) (show List.Nodup (["_law_row"] : List Str) by decide +kernel) rfl (Or.inl rfl) (.inr rfl))) (ownG_name (by decide)) (fun _ _ _ _ => pifs_nil) (fun _ _ _ _ => (pe_ix ix_tupN (pv 0) pe_int (fun _ _ => rfl)))) pa_nil) (pk_cons pe_int pk_nil)))
    (pss_cons (ps_if (PW.pt (pw_or (pt_not (pt_val (pcq (ok__law_right T) hr T.X__law_right (pa_cons (pv 5) pa_nil)))) (pw_or1 (pt_val (pe_callB (call_any rfl) (by rfl) T.n_any boot_any (pa_cons (pe_compB (XN := ["_law_script", "_law_rest", "_law_sizes_here", "_law_table_here", "_law_greatest", "_law_told", "_law_last"]) (sc := defScope s_law) (N := ["_law_row", "_law_last"]) (own := 1) (js := [6]) rfl (by decide +kernel) rfl rfl (pi_list (pv 5)) (fun _ _ _ _ => (pg_name (i := 0) (show List.Nodup (["_law_row", "_law_last"] : List Str) by decide +kernel) rfl (Or.inl rfl) (.inr rfl))) (ownG_name (by decide)) (fun _ _ _ _ => pifs_nil) (fun _ _ _ _ => (pe_cmpR op_gt (pe_ix ix_tupN (pv 0) pe_int (fun _ _ => rfl)) (pv 1) (nomark _)))) pa_nil)))))) (pss_one (ps_ret pe_bl)) pss_nil)
    (pss_one (ps_ret (pcq (ok__law_sums_hold T) hr T.X__law_sums_hold (pa_cons (pcq (ok__law_numbers T) hr T.X__law_numbers (pa_cons (pv 5) pa_nil)) (pa_cons (pcq (ok__law_numbers T) hr T.X__law_numbers (pa_cons (pv 3) pa_nil)) (pa_cons (pv 6) (pa_cons (pe_ix ix_tupN (pv 2) pe_int (fun _ _ => rfl)) pa_nil)))))))))))))))))), ?_⟩
  refine ⟨_, rfl, a, ns, 0, rfl, hS, by decide, fun c => ⟨c, rfl, fun z z0 => ⟨(zB rfl), fun b H1 n1 s1 h1 => ?_⟩⟩⟩
  refine ⟨_, rfl, b, z, rfl, h1, z0, fun v n q B z1 H2 bt2 hb2 z10 hv2 hq20 hn1 hn4 B1 B2 => ?_⟩
  refine ⟨_, rfl, _, rfl, b, z1, v, n, q, B, true, rfl, hb2, z10, hv2, hq20, hn1, hn4, B1, B2, fun l F H3 bt3 nl hF hbd _ hl3 => ?_⟩
  have hv3 := tup_but hb2 bt3 hv2
  have sH3 : Same H H3 := But.same s1 n1 (bt2.trans bt3)
  have sz : Sz q n := ⟨by omega, hn1, hn4⟩
  have q20 : q ≤ 20 := by
    have : q * 1 ≤ q * n := Nat.mul_le_mul_left q hn1
    omega
  clear bt2 bt3 hb2 hv2 h1
  have hS3 := SqL.fz (Fz.of_same sH3) hS
  refine ⟨_, rfl, a, ns, 1, rfl, hS3, by decide, fun c1 => ⟨_, _, rfl, rfl, (show (0 : Int) < 4 by decide), _, _, rfl, rfl, ?_⟩⟩
  obtain ⟨g, hg⟩ := Int.eq_ofNat_of_zero_le (show 0 ≤ 1 + c1 % 4 by omega)
  dsimp only
  rw [hg]
  have g1 : 1 ≤ g := by omega
  have g4 : g ≤ 4 := by omega
  refine ⟨_, rfl, _, _, rfl, .inl hl3, fun p H4 np s4 hp => ?_⟩
  refine ⟨_, rfl, a, ns, 1, rfl, SqL.fz (Fz.of_same s4) hS3, by decide, fun c2 => ⟨c2, rfl, fun od H5 s5 tod nod => ?_⟩⟩
  refine ⟨.ref p, od, q, n, F, rfl, hp.mono s5, sz, hq20, hF, hbd, tod, nod, fun H6 s6 => ⟨true, rfl, iteF ?_⟩⟩
  have s36 := (s4.trans s5).trans s6
  have hl6 := hl3.mono s36
  refine ⟨_, rfl, _, _, rfl, .inl hl6, fun p2 H7 np2 s7 hp2 => ?_⟩
  refine ⟨_, rfl, .ref p2, .int g, q, n, F, rfl, hp2, sz, hq20, hF, hbd, .inl ⟨_, rfl⟩, fun g' eg _ _ l2 C H8 z8 nl2 hC hCok hl2 => ?_, fun h => absurd ⟨_, rfl, by omega, by omega⟩ h⟩
  obtain rfl : g' = g := by have := V.int.inj eg; omega
  have z38 : Fz H3 H8 := ((Fz.of_same s36).trans (Fz.of_same s7)).trans z8
  have sz4 : Sz q 4 := ⟨by omega, by decide, by decide⟩
  refine ⟨_, rfl, .ref l2, q, 4, C, rfl, hl2, sz4, hCok, fun H9 s9 => ?_⟩
  refine ⟨true, rfl, iteF ?_⟩
  obtain ⟨_, lvs, e, hla, hli⟩ := of_l (hl2.mono s9)
  cases e
  have llen : lvs.length = (canon q C 4).length := by rw [hli.length, List.length_map]
  have hlen := canon_len (F := C) sz4
  refine ⟨_, rfl, l2, rfl, ⟨_, SqL.of hla⟩, fun acc na => ?_⟩
  refine comp_list (xs := lvs) (own := 1) (js := [4]) (fun j H10 => Same H9 H10 ∧ H10 acc = some (.lst ((List.replicate j false).map V.bl))) ⟨Same.new na, upd_same⟩ (fun j H10 _ h => SqL.of (h.1 _ _ hla)) ?_ ?_ mono_name mono_yes ?_
  · rintro j x H10 hj ⟨s10, hacc⟩
    obtain ⟨r, hr', hy⟩ := issM hli hj
    obtain ⟨d, s, hne, rfl⟩ := (canon_mem hCok).mp (List.mem_of_getElem? hr')
    have jl : j < lvs.length := (List.getElem?_eq_some_iff.mp hj).1
    obtain ⟨d1, d2⟩ := hC.deg hne
    refine yesN ?_
    refine ⟨_, rfl, _, 0, .i (d : Int), hy.mono s10, rfl, rfl, fun u hu => ?_⟩
    rw [of_i hu]
    refine ⟨_, rfl, _, _, rfl, rfl, acc, _, _, rfl, rfl, hacc, small1000 (by rw [List.length_map, List.length_replicate]; omega), s10.put na, ?_⟩
    rw [upd_same, List.replicate_succ', List.map_append]
    have : decide ((g' : Int) < (d : Int)) = false := decide_eq_false (by omega)
    show some (HO.lst (_ ++ [V.bl (decide ((g' : Int) < (d : Int)))])) = _
    rw [this]
    rfl
  · rintro H10 ⟨s10, hacc⟩
    refine ⟨acc, List.replicate _ false, rfl, SqL.of hacc, false, by simp, iteF ?_⟩
    have z310 := (z38.trans (Fz.of_same s9)).trans (Fz.of_same s10)
    have hl10 := rows_lts z310.lts hl3
    have hv10 := hv3.lts z310.lts
    have hl210 := (hl2.mono s9).mono s10
    refine ⟨_, rfl, .ref l, q, n, F, rfl, hl10, sz, hF, fun w1 H11 nw1 s11 hw1 => ?_⟩
    refine ⟨_, rfl, .ref l2, q, 4, C, rfl, hl210.mono s11, sz4, hCok, fun w2 H12 nw2 s12 hw2 => ?_⟩
    have z312 := (z310.trans (Fz.of_same s11)).trans (Fz.of_same s12)
    refine ⟨_, rfl, _, rfl, _, 1, .i (q : Int), hv3.lts z312.lts, rfl, rfl, fun u hu => ?_⟩
    rw [of_i hu]
    have low : ∀ {W : Nat → Nat → Int}, FOk q n W → ∀ e r, W e r ≠ 0 → r ≤ 20 := fun hW e r hne => by
      obtain ⟨_, b2, _, b4⟩ := hW e r hne
      exact Nat.le_trans b4 (Nat.le_trans (Nat.mul_le_mul_left q b2) hq20)
    refine ⟨w1, w2, F, C, q, n, 4, g', rfl, s12 _ _ hw1, hw2, sz, sz4, hF, hCok, q20, g4, low hF, fun e r e' r' => .inl (hbd e r), fun d s h1 h2 h3 h4 => hC.law hF hq20 h1 h2 h3 h4, fun H13 s13 => ⟨true, rfl, iteF ?_⟩⟩
    have z313 := z312.trans (Fz.of_same s13)
    have hl13 := rows_lts z313.lts hl3
    refine ⟨_, rfl, _, _, rfl, .inl hl13, fun p3 H14 np3 s14 hp3 => ?_⟩
    refine ⟨.ref p3, q, n, F, rfl, hp3, sz, hq20, hF, fun _ _ i W _ _ d e s t => .inr (hbd e t), fun l3 W G H15 z15 nl3 hG hdG hW hWok hl15 => ?_⟩
    have z315 := (z313.trans (Fz.of_same s14)).trans z15
    obtain ⟨_, lvs2, e, hla2, hli2⟩ := of_l (rows_lts z315.lts hl3)
    cases e
    have llen2 : lvs2.length = (canon q F n).length := by rw [hli2.length, List.length_map]
    have hlen2 := canon_len (F := F) sz
    refine ⟨_, rfl, l, rfl, ⟨_, SqL.of hla2⟩, fun acc2 na2 => ?_⟩
    refine comp_list (xs := lvs2) (own := 1) (js := []) (fun j H16 => Same H15 H16 ∧ H16 acc2 = some (.lst ((((canon q F n).take j).map (·.getD 0 0)).map V.int))) ⟨Same.new na2, upd_same⟩ (fun j H16 _ h => SqL.of (h.1 _ _ hla2)) ?_ ?_ mono_name mono_yes ?_
    · rintro j x H16 hj ⟨s16, hacc⟩
      obtain ⟨r, hr', hy⟩ := issM hli2 hj
      obtain ⟨d, s, hne, rfl⟩ := (canon_mem hF).mp (List.mem_of_getElem? hr')
      refine yesN ?_
      refine ⟨_, rfl, _, 0, .i (d : Int), hy.mono s16, rfl, rfl, fun u hu => ?_⟩
      rw [of_i hu]
      refine ⟨acc2, _, _, rfl, rfl, hacc, small1000 ?_, s16.put na2, ?_⟩
      · rw [List.length_map, List.length_map, List.length_take]; omega
      · rw [upd_same, List.take_add_one, hr', List.map_append, List.map_append]; rfl
    · rintro H16 ⟨s16, hacc⟩
      rw [llen2, List.take_length] at hacc
      refine ⟨acc2, _, 0, rfl, rfl, SqL.of hacc, ?_⟩
      have hG2 := hG
      unfold grt at hG2
      rw [hG2]
      refine ⟨_, rfl, .ref l3, q, n, W, rfl, hl15.mono s16, sz, hWok, fun H17 s17 => ⟨true, rfl, iteF ?_⟩⟩
      have hl17 := (hl15.mono s16).mono s17
      obtain ⟨_, lvs3, e, hla3, hli3⟩ := of_l hl17
      cases e
      have llen3 : lvs3.length = (canon q W n).length := by rw [hli3.length, List.length_map]
      have hlen3 := canon_len (F := W) sz
      refine ⟨_, rfl, l3, rfl, ⟨_, SqL.of hla3⟩, fun acc3 na3 => ?_⟩
      refine comp_list (xs := lvs3) (own := 1) (js := [6]) (fun j H18 => Same H17 H18 ∧ H18 acc3 = some (.lst ((List.replicate j false).map V.bl))) ⟨Same.new na3, upd_same⟩ (fun j H18 _ h => SqL.of (h.1 _ _ hla3)) ?_ ?_ mono_name mono_yes ?_
      · rintro j x H18 hj ⟨s18, hacc3⟩
        obtain ⟨r, hr', hy⟩ := issM hli3 hj
        obtain ⟨d, s, hne, rfl⟩ := (canon_mem hWok).mp (List.mem_of_getElem? hr')
        have jl : j < lvs3.length := (List.getElem?_eq_some_iff.mp hj).1
        obtain ⟨d1, d2⟩ := hW.deg hne
        refine yesN ?_
        refine ⟨_, rfl, _, 0, .i (d : Int), hy.mono s18, rfl, rfl, fun u hu => ?_⟩
        rw [of_i hu]
        refine ⟨_, rfl, _, _, rfl, rfl, acc3, _, _, rfl, rfl, hacc3, small1000 (by rw [List.length_map, List.length_replicate]; omega), s18.put na3, ?_⟩
        rw [upd_same, List.replicate_succ', List.map_append]
        have : decide ((G : Int) < (d : Int)) = false := decide_eq_false (by omega)
        show some (HO.lst (_ ++ [V.bl (decide ((G : Int) < (d : Int)))])) = _
        rw [this]
        rfl
      · rintro H18 ⟨s18, hacc3⟩
        refine ⟨acc3, List.replicate _ false, rfl, SqL.of hacc3, false, by simp, iteF ?_⟩
        have z318 := ((z315.trans (Fz.of_same s16)).trans (Fz.of_same s17)).trans (Fz.of_same s18)
        refine ⟨_, rfl, .ref l3, q, n, W, rfl, hl17.mono s18, sz, hWok, fun w3 H19 nw3 s19 hw3 => ?_⟩
        refine ⟨_, rfl, .ref l, q, n, F, rfl, (rows_lts z318.lts hl3).mono s19, sz, hF, fun w4 H20 nw4 s20 hw4 => ?_⟩
        have z320 := (z318.trans (Fz.of_same s19)).trans (Fz.of_same s20)
        refine ⟨_, rfl, _, rfl, _, 1, .i (q : Int), hv3.lts z320.lts, rfl, rfl, fun u hu => ?_⟩
        rw [of_i hu]
        obtain ⟨G', eG, Gn, _⟩ := grt_ok hF
        obtain rfl : G' = G := by rw [hG] at eG; omega
        exact ⟨w3, w4, W, F, q, n, n, G', rfl, s20 _ _ hw3, hw4, sz, sz, hWok, hF, q20, by omega, low hWok, fun e r e' r' => .inr (hbd e' r'), fun d s h1 h2 h3 h4 => hW.law hWok hq20 h1 h2 h3 h4, fun H21 s21 => kk H21⟩
      · rintro σ H R R' k ⟨v1, e1, xs, i, d, h1, h2, h3, h⟩
        refine ⟨v1, e1, xs, i, d, h1, h2, h3, fun u hu => ?_⟩
        obtain ⟨v2, e2, i2, j2, e3, e4, q⟩ := h u hu
        exact ⟨v2, e2, i2, j2, e3, e4, k _ _ q⟩
    · rintro σ H R R' k ⟨v1, e1, xs, i, d, h1, h2, h3, h⟩
      exact ⟨v1, e1, xs, i, d, h1, h2, h3, fun u hu => k _ _ (h u hu)⟩
  · rintro σ H R R' k ⟨v1, e1, xs, i, d, h1, h2, h3, h⟩
    refine ⟨v1, e1, xs, i, d, h1, h2, h3, fun u hu => ?_⟩
    obtain ⟨v2, e2, i2, j2, e3, e4, q⟩ := h u hu
    exact ⟨v2, e2, i2, j2, e3, e4, k _ _ q⟩
end
theorem fb1 {K : PySem.W.Frag} {mg : Str → Option Value} {n : Str} {st : Stmt} {ps : List Str} {f : Addr} {d : FuncData} (F : Fun K n n st f d) (e : mg n = some (.ref f)) (hp : ps.length = 1 := by exact rfl) (h : ∀ (kV dc pm : Value) (an : Option Addr) (cd ct x0 : Value), bindArgs (PySem.W.fnOf n n (defArgs st) (defBody st) (defScope st) .none kV dc pm an cd ct) ⟨[x0], []⟩ = pure (ps.zip [x0]) := by intros; exact rfl) : Fb K mg n st ps f d := by
  refine ⟨F, F.binds fun kV dc pm an cd ct us hl => ?_, e⟩
  rw [hp] at hl
  rcases us with _ | ⟨x0, us⟩
  · simp at hl
  rcases us with _ | ⟨y, us⟩
  · exact h kV dc pm an cd ct x0
  · simp at hl
theorem fb2 {K : PySem.W.Frag} {mg : Str → Option Value} {n : Str} {st : Stmt} {ps : List Str} {f : Addr} {d : FuncData} (F : Fun K n n st f d) (e : mg n = some (.ref f)) (hp : ps.length = 2 := by exact rfl) (h : ∀ (kV dc pm : Value) (an : Option Addr) (cd ct x0 x1 : Value), bindArgs (PySem.W.fnOf n n (defArgs st) (defBody st) (defScope st) .none kV dc pm an cd ct) ⟨[x0, x1], []⟩ = pure (ps.zip [x0, x1]) := by intros; exact rfl) : Fb K mg n st ps f d := by
  refine ⟨F, F.binds fun kV dc pm an cd ct us hl => ?_, e⟩
  rw [hp] at hl
  rcases us with _ | ⟨x0, us⟩
  · simp at hl
  rcases us with _ | ⟨x1, us⟩
  · simp at hl
  rcases us with _ | ⟨y, us⟩
  · exact h kV dc pm an cd ct x0 x1
  · simp at hl
theorem fb3 {K : PySem.W.Frag} {mg : Str → Option Value} {n : Str} {st : Stmt} {ps : List Str} {f : Addr} {d : FuncData} (F : Fun K n n st f d) (e : mg n = some (.ref f)) (hp : ps.length = 3 := by exact rfl) (h : ∀ (kV dc pm : Value) (an : Option Addr) (cd ct x0 x1 x2 : Value), bindArgs (PySem.W.fnOf n n (defArgs st) (defBody st) (defScope st) .none kV dc pm an cd ct) ⟨[x0, x1, x2], []⟩ = pure (ps.zip [x0, x1, x2]) := by intros; exact rfl) : Fb K mg n st ps f d := by
  refine ⟨F, F.binds fun kV dc pm an cd ct us hl => ?_, e⟩
  rw [hp] at hl
  rcases us with _ | ⟨x0, us⟩
  · simp at hl
  rcases us with _ | ⟨x1, us⟩
  · simp at hl
  rcases us with _ | ⟨x2, us⟩
  · simp at hl
  rcases us with _ | ⟨y, us⟩
  · exact h kV dc pm an cd ct x0 x1 x2
  · simp at hl
theorem fb4 {K : PySem.W.Frag} {mg : Str → Option Value} {n : Str} {st : Stmt} {ps : List Str} {f : Addr} {d : FuncData} (F : Fun K n n st f d) (e : mg n = some (.ref f)) (hp : ps.length = 4 := by exact rfl) (h : ∀ (kV dc pm : Value) (an : Option Addr) (cd ct x0 x1 x2 x3 : Value), bindArgs (PySem.W.fnOf n n (defArgs st) (defBody st) (defScope st) .none kV dc pm an cd ct) ⟨[x0, x1, x2, x3], []⟩ = pure (ps.zip [x0, x1, x2, x3]) := by intros; exact rfl) : Fb K mg n st ps f d := by
  refine ⟨F, F.binds fun kV dc pm an cd ct us hl => ?_, e⟩
  rw [hp] at hl
  rcases us with _ | ⟨x0, us⟩
  · simp at hl
  rcases us with _ | ⟨x1, us⟩
  · simp at hl
  rcases us with _ | ⟨x2, us⟩
  · simp at hl
  rcases us with _ | ⟨x3, us⟩
  · simp at hl
  rcases us with _ | ⟨y, us⟩
  · exact h kV dc pm an cd ct x0 x1 x2 x3
  · simp at hl
def Hf (K : PySem.W.Frag) (n : Str) (st : Stmt) (f : Addr) : Prop := PySem.W.nsIn K mainGlobals n = some (some (.ref f)) ∧ ∃ d, Fun K n n st f d
theorem hf_mk {K : PySem.W.Frag} {n : Str} {st : Stmt} {f : Addr} {od an : Option Addr} {sl : Array (Option Value)} {oc kV dc pm cd ct : Value} (a : PySem.W.nsIn K mainGlobals n = some (some (.ref f))) (l : K.lookup f = some ⟨oc, od, .func (PySem.W.fnOf n n (defArgs st) (defBody st) (defScope st) .none kV dc pm an cd ct), sl⟩) (c : PySem.W.codeIn K cd n = true) (k : PySem.W.keepIn K (.ref f) = true) : Hf K n st f := ⟨a, _, fun_mk l c k⟩
theorem all_mk {l : PySem.W.OpenLaw} {w : World} {K : PySem.W.Frag} {h : Heap} {mg : Str → Option Value} {fa : Addr} (X : K.In h) (G : h.Ns mainGlobals mg) (hfa : mg "law" = some (.ref fa))
    {f0 f1 f2 f3 f4 f5 f6 f7 f8 f9 f10 f11 f12 f13 f14 f15 f16 f17 f18 f19 f20 f21 f22 : Addr}
    (h0 : Hf K "is_whole" s_is_whole f0)
    (h1 : Hf K "need_between" s_need_between f1)
    (h2 : Hf K "choose" s_choose f2)
    (h3 : Hf K "by_degree" s_by_degree f3)
    (h4 : Hf K "as_table" s_as_table f4)
    (h5 : Hf K "add_products" s_add_products f5)
    (h6 : Hf K "wholes_by_degree" s_wholes_by_degree f6)
    (h7 : Hf K "counts_by_degree" s_counts_by_degree f7)
    (h8 : Hf K "wholes_of" s_wholes_of f8)
    (h9 : Hf K "counts_of" s_counts_of f9)
    (h10 : Hf K "_law_cell_at" s__law_cell_at f10)
    (h11 : Hf K "_law_great" s__law_great f11)
    (h12 : Hf K "_law_digit" s__law_digit f12)
    (h13 : Hf K "_law_choose" s__law_choose f13)
    (h14 : Hf K "_law_sizes" s__law_sizes f14)
    (h15 : Hf K "_law_table" s__law_table f15)
    (h16 : Hf K "_law_right" s__law_right f16)
    (h17 : Hf K "_law_numbers" s__law_numbers f17)
    (h18 : Hf K "_law_sum" s__law_sum f18)
    (h19 : Hf K "_law_sums_hold" s__law_sums_hold f19)
    (h20 : Hf K "_law_odd" s__law_odd f20)
    (h21 : Hf K "_law_refused" s__law_refused f21)
    (h22 : Hf K "law" s_law f22)
    (zz : ∀ n ∈ ["isinstance", "int", "bool", "range", "sorted", "dict", "max", "len", "all", "list", "any", "tuple", "ValueError"], PySem.W.nsIn K mainGlobals n = some none)
    {C_NoBound : Addr} (ca_NoBound : PySem.W.nsIn K mainGlobals "NoBound" = some (some (.ref C_NoBound)))
    {C_CurveError : Addr} (ca_CurveError : PySem.W.nsIn K mainGlobals "CurveError" = some (some (.ref C_CurveError)))
    {C_NoDrawing : Addr} (ca_NoDrawing : PySem.W.nsIn K mainGlobals "NoDrawing" = some (some (.ref C_NoDrawing)))
    {C_NoEnds : Addr} (ca_NoEnds : PySem.W.nsIn K mainGlobals "NoEnds" = some (some (.ref C_NoEnds)))
    {C_NoNumber : Addr} (ca_NoNumber : PySem.W.nsIn K mainGlobals "NoNumber" = some (some (.ref C_NoNumber)))
    {C_NoText : Addr} (ca_NoText : PySem.W.nsIn K mainGlobals "NoText" = some (some (.ref C_NoText)))
    (cx_NoBound : PySem.W.excIn K C_NoBound bmV "ValueError.__new__" = true) (xc_NoBound : XC K C_NoBound)
    (ce_NoBound_CurveError : PySem.W.exmOne K (.ref C_NoBound) (.ref C_CurveError) = some true)
    (ck_NoBound_NoBound : PySem.W.kitOne K (.ref C_NoBound) (.ref C_NoBound) = some true)
    (ck_NoBound_ValueError : PySem.W.kitOne K (.ref C_NoBound) (.type "ValueError") = some true)
    (cs_NoBound_0 : PySem.W.kitAny K (.ref C_NoBound) [(.ref C_NoDrawing), (.ref C_NoEnds), (.ref C_NoNumber), (.ref C_NoText)] = some false)
    : ∃ fd : FuncData, (∀ (s : Shared) (v : Value), BindsTo s fd ⟨[v], []⟩ [("_law_script", v)]) ∧ ∀ base : Heap, K.In base → base.Ns mainGlobals mg → FnOk l.prog w K mg base CX0 12 fa fd ["_law_script"] (sp_law K) := by
  obtain ⟨a0, d0, F0⟩ := h0
  obtain ⟨a1, d1, F1⟩ := h1
  obtain ⟨a2, d2, F2⟩ := h2
  obtain ⟨a3, d3, F3⟩ := h3
  obtain ⟨a4, d4, F4⟩ := h4
  obtain ⟨a5, d5, F5⟩ := h5
  obtain ⟨a6, d6, F6⟩ := h6
  obtain ⟨a7, d7, F7⟩ := h7
  obtain ⟨a8, d8, F8⟩ := h8
  obtain ⟨a9, d9, F9⟩ := h9
  obtain ⟨a10, d10, F10⟩ := h10
  obtain ⟨a11, d11, F11⟩ := h11
  obtain ⟨a12, d12, F12⟩ := h12
  obtain ⟨a13, d13, F13⟩ := h13
  obtain ⟨a14, d14, F14⟩ := h14
  obtain ⟨a15, d15, F15⟩ := h15
  obtain ⟨a16, d16, F16⟩ := h16
  obtain ⟨a17, d17, F17⟩ := h17
  obtain ⟨a18, d18, F18⟩ := h18
  obtain ⟨a19, d19, F19⟩ := h19
  obtain ⟨a20, d20, F20⟩ := h20
  obtain ⟨a21, d21, F21⟩ := h21
  obtain ⟨a22, d22, F22⟩ := h22
  cases hfa.symm.trans (PySem.W.mg_of X G a22)
  have W := F22
  obtain ⟨_, _, _, _, _, _, _, _, _, rfl, _⟩ := F22.ex
  have g {n : Str} {v : Value} (e : PySem.W.nsIn K mainGlobals n = some (some v)) : mg n = some v := PySem.W.mg_of X G e
  exact ⟨_, fun s v => .of_eq rfl, fun base _ _ => ok_law (⟨f0, _, f1, _, f2, _, f3, _, f4, _, f5, _, f6, _, f7, _, f8, _, f9, _, f10, _, f11, _, f12, _, f13, _, f14, _, f15, _, f16, _, f17, _, f18, _, f19, _, f20, _, f21, _, fa, _, fb1 F0 (g a0), fb3 F1 (g a1), fb2 F2 (g a2), fb2 F3 (g a3), fb1 F4 (g a4), fb4 F5 (g a5), fb1 F6 (g a6), fb1 F7 (g a7), fb1 F8 (g a8), fb2 F9 (g a9), fb2 F10 (g a10), fb1 F11 (g a11), fb2 F12 (g a12), fb2 F13 (g a13), fb1 F14 (g a14), fb3 F15 (g a15), fb1 F16 (g a16), fb1 F17 (g a17), fb4 F18 (g a18), fb4 F19 (g a19), fb1 F20 (g a20), fb2 F21 (g a21), fb1 W (g a22), PySem.W.mg_none_of X G (zz _ (by decide)), PySem.W.mg_none_of X G (zz _ (by decide)), PySem.W.mg_none_of X G (zz _ (by decide)), PySem.W.mg_none_of X G (zz _ (by decide)), PySem.W.mg_none_of X G (zz _ (by decide)), PySem.W.mg_none_of X G (zz _ (by decide)), PySem.W.mg_none_of X G (zz _ (by decide)), PySem.W.mg_none_of X G (zz _ (by decide)), PySem.W.mg_none_of X G (zz _ (by decide)), PySem.W.mg_none_of X G (zz _ (by decide)), PySem.W.mg_none_of X G (zz _ (by decide)), PySem.W.mg_none_of X G (zz _ (by decide)), PySem.W.mg_none_of X G (zz _ (by decide)), C_NoBound, g ca_NoBound, C_CurveError, g ca_CurveError, C_NoDrawing, g ca_NoDrawing, C_NoEnds, g ca_NoEnds, C_NoNumber, g ca_NoNumber, C_NoText, g ca_NoText, cx_NoBound, xc_NoBound, ce_NoBound_CurveError, ck_NoBound_NoBound, ck_NoBound_ValueError, cs_NoBound_0⟩ : Fns K mg)⟩
theorem walk {l : PySem.W.OpenLaw} {q : Program} {loose : List Str} {XP : (Str → Option Value) → Heap → Prop} {YP : World → Heap → Prop} {d : DefRec} {K : Params → PySem.W.Frag} (hn : l.most = some 63) (hdf : d.params.defaults = [])
    (hY : ∀ (w : World) (h : Heap), YP w h → (K w.params).In h)
    (F : ∀ (w : World) (mg : Str → Option Value) (fa : Addr) (h : Heap), (K w.params).In h → h.Ns mainGlobals mg → mg d.name = some (.ref fa) →
      ∃ fd : FuncData, (∀ (s : Shared) (u : Value), BindsTo s fd ⟨[u], []⟩ [("_law_script", u)]) ∧ ∀ base : Heap, (K w.params).In base → base.Ns mainGlobals mg → FnOk l.prog w (K w.params) mg base CX0 12 fa fd ["_law_script"] (sp_law (K w.params))) :
    PySem.W.WalkO q loose XP YP l.row.toRowW d [] (fun f vs => PySem.call f vs) :=
  L2.walk_of (n := 63) (k := 12) (x := "_law_script") (CX := fun _ => CX0) (sp := fun w => sp_law (K w.params)) hn (by decide) hdf ⟨rfl, by decide, by decide⟩ hY F (fun _ _ a ns hl _ hS => ⟨a, ns, rfl, hS, hl, fun _ => rfl⟩) fun _ _ _ _ _ z => z
end Mine
open PySem PySem.W PyProof.Rows
namespace PySem.W.Fast
theorem tw5235886354099789963 : True := trivial
theorem tw9775418191190855150 : True := trivial
theorem tw14101332749025762131 : True := trivial
theorem tw1107160142691894756 : True := trivial
theorem tw12856520272970410877 : True := trivial
theorem tw14981719221698174291 : True := trivial
theorem tw4379787107797486927 : True := trivial
theorem tw10311096496301186852 : True := trivial
theorem tw14038498160612837935 : True := trivial
theorem tw2020087781741238553 : True := trivial
theorem tw10350217332577719415 : True := trivial
theorem tw7892318358365465470 : True := trivial
theorem tw16308506504868800164 : True := trivial
theorem tw7621383802612699007 : True := trivial
theorem tw168522875388684936 : True := trivial
theorem tw18214595339799321592 : True := trivial
theorem tw14573705214940150281 : True := trivial
theorem tw10657169770609286045 : True := trivial
theorem tw6001114508414996610 : True := trivial
theorem tw13993714738595068322 : True := trivial
theorem tw480743753746022224 : True := trivial
theorem tw18106421836416757914 : True := trivial
theorem tw14378613947743876519 : True := trivial
theorem tw7317299137497778897 : True := trivial
theorem tw13534462116895282544 : True := trivial
theorem tw8693207953331994542 : True := trivial
theorem tw10986393738014909754 : True := trivial
theorem tw8232810540909969454 : True := trivial
theorem tw11199558992648039836 : True := trivial
theorem tw4962608888495240416 : True := trivial
theorem tw11876278974523738195 : True := trivial
theorem tw12493468759641627693 : True := trivial
theorem tw16109084644968840695 : True := trivial
theorem tw4093006495430624878 : True := trivial
theorem tw17689745038179958964 : True := trivial
theorem tw4140793439285997446 : True := trivial
theorem tw12321748522723623813 : True := trivial
theorem tw14695601239002552455 : True := trivial
theorem tw8637920811793594764 : True := trivial
theorem tw1203197022012567134 : True := trivial
theorem tw11746254107568019510 : True := trivial
theorem tw15314173957769103347 : True := trivial
theorem tw11823758554090022199 : True := trivial
theorem tw14960967826486587245 : True := trivial
theorem tw14357426709083628503 : True := trivial
theorem tw15934736104451971561 : True := trivial
theorem tw8643547038128566391 : True := trivial
theorem tw16330768614957796593 : True := trivial
theorem tw116728963530473222 : True := trivial
theorem tw14915492305899439674 : True := trivial
theorem tw15491634208617261160 : True := trivial
theorem tw6556250729764506721 : True := trivial
theorem tw12474204380219336431 : True := trivial
theorem tw7809948351700601737 : True := trivial
theorem tw8184470938645174132 : True := trivial
theorem tw7593709879293643369 : True := trivial
theorem tw7325057664031298224 : True := trivial
theorem tw16713082199465843165 : True := trivial
theorem tw7162692379633908682 : True := trivial
theorem tw2582442879453522079 : True := trivial
theorem tw16541301877258983938 : True := trivial
theorem tw264072820112765318 : True := trivial
theorem tw10316065300974410260 : True := trivial
theorem tw9191303358038585376 : True := trivial
theorem tw6964585424413270445 : True := trivial
theorem tw16962891126882853826 : True := trivial
theorem tw17167997214641502722 : True := trivial
theorem tw9192440504773600835 : True := trivial
theorem tw13946912036082428170 : True := trivial
theorem tw8783892240130568330 : True := trivial
theorem tw1934968544581337308 : True := trivial
theorem tw12473159847900385888 : True := trivial
theorem tw6690083400103467657 : True := trivial
theorem tw18115326560689532691 : True := trivial
theorem tw3348345188491927485 : True := trivial
theorem tw5837525180717753519 : True := trivial
theorem tw16656082893494177893 : True := trivial
theorem tw18202567421404737237 : True := trivial
theorem tw15793410190358819939 : True := trivial
theorem tw1661317811421301033 : True := trivial
theorem tw15592459485423281059 : True := trivial
theorem tw11710696265238460359 : True := trivial
theorem tw17050862053397125255 : True := trivial
theorem tw14862129501826808384 : True := trivial
theorem tw1797102560745256291 : True := trivial
theorem tw5653254979329363972 : True := trivial
theorem tw3886626972924414645 : True := trivial
theorem tw336313324528287001 : True := trivial
theorem tw2921689863198166001 : True := trivial
theorem tw14793742912330024653 : True := trivial
theorem tw6224371655191666749 : True := trivial
theorem tw2733707796015853287 : True := trivial
theorem tw16806966271701734756 : True := trivial
theorem tw3890927978810781717 : True := trivial
theorem tw1764634425556326158 : True := trivial
theorem tw14018212894320153736 : True := trivial
theorem tw4040015732472475597 : True := trivial
theorem tw18266536201317180616 : True := trivial
theorem tw12097132453518792869 : True := trivial
theorem tw3523501604542039791 : True := trivial
theorem tw8920179454015477294 : True := trivial
theorem tw834220051646932334 : True := trivial
theorem tw16564260902821379306 : True := trivial
theorem tw14523807070333649839 : True := trivial
theorem tw74407355465634700 : True := trivial
theorem tw12960270129095432547 : True := trivial
theorem tw11464523607988858781 : True := trivial
theorem tw4905595219505995651 : True := trivial
theorem tw3105158278068264367 : True := trivial
theorem tw49281275439247879 : True := trivial
theorem tw8800689518669030234 : True := trivial
theorem tw8376821944931480714 : True := trivial
theorem tw265291571528610657 : True := trivial
theorem tw5156308990557925520 : True := trivial
theorem tw16785306145102794390 : True := trivial
theorem tw15048237885398781261 : True := trivial
theorem tw130351058580937019 : True := trivial
theorem tw2467090767878862593 : True := trivial
theorem tw9935681902303798053 : True := trivial
theorem tw5633691272969739516 : True := trivial
theorem tw13846248743764292683 : True := trivial
theorem tw16372264949362547189 : True := trivial
theorem tw9721692234300358528 : True := trivial
theorem tw12662898086313275784 : True := trivial
theorem tw4245547237046474961 : True := trivial
theorem tw18303931600127413538 : True := trivial
theorem tw1674635166434210999 : True := trivial
theorem tw3390352145159660800 : True := trivial
theorem tw15509347319898239591 : True := trivial
theorem tw9894759515211045338 : True := trivial
theorem tw887425564313072196 : True := trivial
theorem tw16114802808507597910 : True := trivial
theorem tw14298254976618883830 : True := trivial
theorem tw15988879863194608932 : True := trivial
theorem tw14384749800384165543 : True := trivial
theorem tw10373008712868543567 : True := trivial
theorem tw4184490957744766489 : True := trivial
theorem tw15155081317788463194 : True := trivial
theorem tw12452333417880952020 : True := trivial
theorem tw3321239031967344739 : True := trivial
theorem tw11604124361985627322 : True := trivial
theorem tw17414820815017101314 : True := trivial
theorem tw17685634556913480452 : True := trivial
theorem tw2881144019799819478 : True := trivial
theorem tw8722541675581797182 : True := trivial
theorem tw17660670218094228798 : True := trivial
theorem tw14164096199489085482 : True := trivial
theorem tw4077279587146494617 : True := trivial
theorem tw14060953897586631929 : True := trivial
theorem tw1130509444760660132 : True := trivial
theorem tw13456982698156071832 : True := trivial
theorem tw14114925598119419561 : True := trivial
theorem tw9938633469410233554 : True := trivial
theorem tw14972494550326628842 : True := trivial
theorem tw3624442835680818811 : True := trivial
theorem tw14000969041038765172 : True := trivial
theorem tw15809698193119914555 : True := trivial
theorem tw17704200499799691472 : True := trivial
theorem tw438496277402005941 : True := trivial
theorem tw2303172903756579695 : True := trivial
theorem tw11938136277396427190 : True := trivial
theorem tw4756299526003511728 : True := trivial
theorem tw15803626901525588297 : True := trivial
theorem tw461292512738447593 : True := trivial
theorem tw7141287914026686777 : True := trivial
theorem tw15691929582795399020 : True := trivial
theorem tw11349457614656496910 : True := trivial
theorem tw7300956455770788970 : True := trivial
theorem tw8607059689785074822 : True := trivial
theorem tw17510515168823349836 : True := trivial
theorem tw16405719884497609689 : True := trivial
theorem tw13686067724501047442 : True := trivial
theorem tw2897169313296224317 : True := trivial
theorem tw6966319253427071688 : True := trivial
theorem tw133568526479048358 : True := trivial
theorem tw654438753637899962 : True := trivial
theorem tw16837655684447481803 : True := trivial
theorem tw10825602479915763794 : True := trivial
theorem tw9601010706229367448 : True := trivial
theorem tw17018947857929849597 : True := trivial
theorem tw1913502888491241196 : True := trivial
theorem tw12263171713957589359 : True := trivial
theorem tw16456145199270674639 : True := trivial
theorem tw8443602749764356288 : True := trivial
theorem tw10145200107806276065 : True := trivial
theorem tw13057675545534248159 : True := trivial
theorem tw2840094554122367562 : True := trivial
theorem tw1978649352294132366 : True := trivial
theorem tw10604983337304480664 : True := trivial
theorem tw17190254994189982433 : True := trivial
theorem tw4693584024828163126 : True := trivial
theorem tw16768540395091922322 : True := trivial
theorem tw12608627486982616403 : True := trivial
theorem tw17956737971636271350 : True := trivial
theorem tw5818332498005193606 : True := trivial
theorem tw2187572342551727071 : True := trivial
theorem tw6110004204473319674 : True := trivial
theorem tw2919692712838653087 : True := trivial
theorem tw8831050764478607824 : True := trivial
theorem tw6357079505090954214 : True := trivial
theorem tw3422684558226607069 : True := trivial
theorem tw5730864720982324757 : True := trivial
theorem tw3645158538284921406 : True := trivial
theorem tw4871157580830705577 : True := trivial
theorem tw16197336716420243171 : True := trivial
theorem tw7296102318421451377 : True := trivial
theorem tw3037631783970863296 : True := trivial
theorem tw107806563640334930 : True := trivial
theorem tw14618451807184596985 : True := trivial
theorem tw15943873941666488145 : True := trivial
theorem tw15609031281373093993 : True := trivial
theorem tw16196743975774909543 : True := trivial
theorem tw128306139639888854 : True := trivial
theorem tw3238580760607705132 : True := trivial
theorem tw17411833942183470884 : True := trivial
theorem tw4799571123198690060 : True := trivial
theorem tw6002613678064444949 : True := trivial
theorem tw15938747557501001924 : True := trivial
theorem tw8725550450763216183 : True := trivial
theorem tw10480092347132255383 : True := trivial
theorem tw12091902580339527897 : True := trivial
theorem tw17285729199615829094 : True := trivial
theorem tw4146720250216477627 : True := trivial
theorem tw6779130108346570473 : True := trivial
theorem tw10145486788365316491 : True := trivial
theorem tw12029648053476567229 : True := trivial
theorem tw4889847346363548810 : True := trivial
theorem tw16320145423363976263 : True := trivial
theorem tw12739993698997475823 : True := trivial
theorem tw11621268886116546396 : True := trivial
theorem tw13294711347461048847 : True := trivial
theorem tw15460264632151559811 : True := trivial
theorem tw17698471106154079944 : True := trivial
theorem tw551341761263625932 : True := trivial
theorem tw9412158035185193384 : True := trivial
theorem tw2756138397275231487 : True := trivial
theorem tw289461853776353667 : True := trivial
theorem tw7210522300687411976 : True := trivial
theorem tw6122965025653957218 : True := trivial
end PySem.W.Fast
set_option maxRecDepth 100000 in
set_option maxHeartbeats 0 in
theorem PySem.Challenge.cw_floorcurves_k52_counts_by_own_sums_holds : PySem.Challenge.rw_floorcurves_k52_counts_by_own_sums.Holds := by
  w_on; o_law; k_head; (case hw => w_witness2)
  k_fill
  refine Mine.walk (l := PySem.Challenge.rw_floorcurves_k52_counts_by_own_sums) rfl rfl (fun w h Y => PySem.W.kIn_of Y) ?F
  case F =>
    intro w mg fa h KX G hmg
    refine' Mine.all_mk KX G hmg ?h0 ?h1 ?h2 ?h3 ?h4 ?h5 ?h6 ?h7 ?h8 ?h9 ?h10 ?h11 ?h12 ?h13 ?h14 ?h15 ?h16 ?h17 ?h18 ?h19 ?h20 ?h21 ?h22 ?zz ?ca_NoBound ?ca_CurveError ?ca_NoDrawing ?ca_NoEnds ?ca_NoNumber ?ca_NoText ?cx_NoBound ?xc_NoBound ?ce_NoBound_CurveError ?ck_NoBound_NoBound ?ck_NoBound_ValueError ?cs_NoBound_0
    (case h0 | h1 | h2 | h3 | h4 | h5 | h6 | h7 | h8 | h9 | h10 | h11 | h12 | h13 | h14 | h15 | h16 | h17 | h18 | h19 | h20 | h21 | h22 => refine' Mine.hf_mk ?a ?l ?c ?k; (case a => k_is); (case l => k_is); (case c => k_is); (case k => k_is))
    (case zz => intro n hn; simp only [List.mem_cons, List.not_mem_nil, or_false] at hn; rcases hn with rfl | rfl | rfl | rfl | rfl | rfl | rfl | rfl | rfl | rfl | rfl | rfl | rfl <;> k_is)
    (case ca_NoBound | ca_CurveError | ca_NoDrawing | ca_NoEnds | ca_NoNumber | ca_NoText | cx_NoBound => first | k_is | kit_is | kts_exm | kernel_rfl)
    (case xc_NoBound => constructor <;> first | k_is | kit_is | kts_exm | kernel_rfl)
    (case ce_NoBound_CurveError | ck_NoBound_NoBound | ck_NoBound_ValueError | cs_NoBound_0 => first | k_is | kit_is | kts_exm | kernel_rfl)
#print axioms PySem.Challenge.cw_floorcurves_k52_counts_by_own_sums_holds
