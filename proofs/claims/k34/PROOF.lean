import PyProof.Rows.All
import Wide.All
import OpenK.AllK
import Wide.FinOn
import PySem.Challenge.RW_floorcurves_k34_beyond_the_wide_bounds
import Lean
import PyProof.EqAt
import PyProof.EqKinds
import PyProof.TupleCall
local macro_rules | `(tactic| omega) => `(tactic| lia)
set_option pp.maxSteps 400
set_option Elab.async false
set_option linter.all false
set_option maxRecDepth 100000
set_option maxHeartbeats 4000000
-- CHANGE: your row's module here, as the last of these rows
set_option Elab.async false
set_option linter.all false
set_option maxRecDepth 100000
/-! THE HAND LAYER, for ints, bools, texts, own classes, LISTS and tuples (index, slices, in, append, pop ..), calls, loops. Paste it whole ahead of your own text; what your proof does not reach may be deleted. -/
namespace L2
open PySem PySem.Spec PyProof.Rows

/-- a key: an int or a str -/
abbrev Key := Sum Int Str
def keyIs : Key → Value → Bool
  | .inl k, v => Value.isInt k v
  | .inr x, v => Value.isStrOf x v
def keyH (w : World) : Key → Int
  | .inl k => hashInt k
  | .inr x => hashStr w x
theorem keyIs_shape : ∀ {k : Key} {v : Value}, keyIs k v = true → (∃ i t, k = Sum.inl i ∧ v = Value.int i t) ∨ (∃ x t, k = Sum.inr x ∧ v = Value.str x t)
  | .inl i, v, h => by
    obtain ⟨t, e⟩ := Value.isInt_shape (k := i) (v := v) h
    exact .inl ⟨i, t, rfl, e⟩
  | .inr x, v, h => by
    obtain ⟨t, e⟩ := Value.isStrOf_shape (x := x) (v := v) h
    exact .inr ⟨x, t, rfl, e⟩
theorem keyIs_int (i : Int) (t : Tok) : keyIs (.inl i) (.int i t) = true := by simp [keyIs, Value.isInt]
theorem keyIs_str (x : Str) (t : Tok) : keyIs (.inr x) (.str x t) = true := by simp [keyIs, Value.isStrOf]
theorem key_ll (a b : Int) : decide ((Sum.inl a : Key) = Sum.inl b) = (a == b) := by
  by_cases e : a = b
  · subst e; simp
  · have h : ¬ (Sum.inl a : Key) = Sum.inl b := fun q => e (Sum.inl.inj q)
    rw [decide_eq_false h]
    exact (beq_eq_false_iff_ne.mpr e).symm
theorem key_rr (a b : Str) : decide ((Sum.inr a : Key) = Sum.inr b) = decide (a = b) := by
  by_cases e : a = b
  · subst e; simp
  · have h : ¬ (Sum.inr a : Key) = Sum.inr b := fun q => e (Sum.inr.inj q)
    rw [decide_eq_false h, decide_eq_false e]
theorem key_lr (a : Int) (b : Str) : decide ((Sum.inl a : Key) = Sum.inr b) = false := decide_eq_false (fun q => nomatch q)
theorem key_rl (a : Str) (b : Int) : decide ((Sum.inr a : Key) = Sum.inl b) = false := decide_eq_false (fun q => nomatch q)

def mixKind (prog : Program) (w : World) : PySem.KeyKind prog w Key where
  is := keyIs
  hash := keyH w
  inj := fun v a b ha hb => by
    rcases keyIs_shape ha with ⟨i, t, rfl, rfl⟩ | ⟨x, t, rfl, rfl⟩
    · rcases keyIs_shape hb with ⟨j, u, rfl, e⟩ | ⟨y, u, rfl, e⟩
      · injection e with e1 _; rw [e1]
      · exact nomatch e
    · rcases keyIs_shape hb with ⟨j, u, rfl, e⟩ | ⟨y, u, rfl, e⟩
      · exact nomatch e
      · injection e with e1 _; rw [e1]
  byValue := fun k v h => by
    rcases keyIs_shape h with ⟨i, t, rfl, rfl⟩ | ⟨x, t, rfl, rfl⟩ <;> rfl
  pyHash := fun hv h => by
    rcases keyIs_shape hv with ⟨i, t, rfl, rfl⟩ | ⟨x, t, rfl, rfl⟩
    · exact wpAny_pyHash_int h
    · exact wpAny_pyHash_str h
  eqBool := fun hu hv h => by
    rcases keyIs_shape hu with ⟨i, t, rfl, rfl⟩ | ⟨x, t, rfl, rfl⟩
    · rcases keyIs_shape hv with ⟨j, u, rfl, rfl⟩ | ⟨y, u, rfl, rfl⟩
      · rw [key_ll] at h; exact wpAny_eqBool_int h
      · rw [key_lr] at h; exact SeqAt.EqAt.int_str i t y u _ _ _ _ h
    · rcases keyIs_shape hv with ⟨j, u, rfl, rfl⟩ | ⟨y, u, rfl, rfl⟩
      · rw [key_rl] at h; exact SeqAt.EqAt.str_int x t j u _ _ _ _ h
      · rw [key_rr] at h; exact wpAny_eqBool_str h
  «strs» := fun k x t v h => by
    rcases keyIs_shape h with ⟨i, u, rfl, e⟩ | ⟨y, u, rfl, e⟩
    · exact nomatch e
    · injection e with e1 _
      subst e1
      cases v <;> rfl

theorem mixKind_int (prog : Program) (w : World) (i : Int) (t : Tok) : (mixKind prog w).is (.inl i) (.int i t) = true := keyIs_int i t
theorem mixKind_str (prog : Program) (w : World) (x : Str) (t : Tok) : (mixKind prog w).is (.inr x) (.str x t) = true := keyIs_str x t
end L2

namespace L2
open PySem PySem.Spec PyProof.Rows

/-- a value, without the heap -/
inductive V where
  | non | bl (b : Bool) | int (i : Int) | str (x : Str) | byt (b : Array UInt8) | flt (b : UInt64) | ref (a : Addr) | ty (n : String)
  deriving DecidableEq

def RelV : V → Value → Prop
  | .non, u => u = Value.none
  | .bl b, u => u = Value.bool b
  | .int i, u => ∃ t, u = Value.int i t
  | .str x, u => ∃ t, u = Value.str x t
  | .byt b, u => ∃ t, u = Value.bytes b t
  | .flt b, u => ∃ t, u = Value.float b t
  | .ref a, u => u = Value.ref a
  | .ty n, u => u = Value.type n

abbrev Vals : List V → List Value → Prop := Paired RelV
theorem Vals.length {xs : List V} {us : List Value} (r : Vals xs us) : xs.length = us.length := Paired.length r
theorem Vals.get : ∀ {xs : List V} {us : List Value} {i : Nat} {x : V}, Vals xs us → xs[i]? = some x → ∃ u, us[i]? = some u ∧ RelV x u
  | _, _, _, _, .nil, e => by simp at e
  | _, _, 0, _, .cons r _, e => by simp at e; subst e; exact ⟨_, rfl, r⟩
  | _, _, i + 1, x, .cons _ t, e => by
    obtain ⟨u, h1, h2⟩ := Vals.get (i := i) (x := x) t (by simpa using e)
    exact ⟨u, by simpa using h1, h2⟩
theorem Vals.set {x : V} {u : Value} (r : RelV x u) : ∀ {xs : List V} {us : List Value} (i : Nat), Vals xs us → Vals (xs.set i x) (us.set i u)
  | _, _, _, .nil => .nil
  | _, _, 0, .cons _ t => .cons r t
  | _, _, i + 1, .cons q t => .cons q (Vals.set r i t)
theorem Vals.append : ∀ {xs ys : List V} {us ws : List Value}, Vals xs us → Vals ys ws → Vals (xs ++ ys) (us ++ ws)
  | _, _, _, _, .nil, s => s
  | _, _, _, _, .cons r t, s => .cons r (Vals.append t s)
theorem Vals.take : ∀ {xs : List V} {us : List Value} (n : Nat), Vals xs us → Vals (xs.take n) (us.take n)
  | _, _, 0, _ => .nil
  | _, _, _ + 1, .nil => .nil
  | _, _, n + 1, .cons r t => .cons r (Vals.take n t)
theorem Vals.drop : ∀ {xs : List V} {us : List Value} (n : Nat), Vals xs us → Vals (xs.drop n) (us.drop n)
  | _, _, 0, r => r
  | _, _, _ + 1, .nil => .nil
  | _, _, n + 1, .cons _ t => Vals.drop n t
def RelO : Option V → Option Value → Prop
  | some v, some u => RelV v u
  | none, none => True
  | _, _ => False
def KV {κ : Type} : List (κ × V) → List (κ × Value) → Prop := Paired fun (p : κ × V) (q : κ × Value) => p.1 = q.1 ∧ RelV p.2 q.2

/-- a key of a dict (00_mix): an int or a text -/
def kV : Key → V
  | .inl i => .int i
  | .inr x => .str x

/-- what stands at a tracked address -/
inductive HO where
  /-- a list -/
  | lst (xs : List V)
  /-- a tuple (never changes) -/
  | tup (xs : List V)
  /-- a dict whose keys are ints and texts; one whose keys are tuples of ints and texts (the empty one is both) -/
  | dK (kvs : List (Key × V)) | dT (kvs : List (List Key × V))
  /-- a set of ints: its members, its size -/
  | set (S : Int → Bool) (n : Nat)
  /-- an instance of the class at C, its dict at dx, its attributes -/
  | ins (C dx : Addr) (fs : List (Str × V))
  /-- the dict of the instance at x -/
  | own (x : Addr)
  /-- the dict of an exception -/
  | xd (fs : List (Str × V))
  /-- a bound method, f of x -/
  | met (f x : Addr)
  /-- a range object lo, lo + 1, .. below hi -/
  | rng (lo hi : Int)
  /-- a thing that is known to the object (the script; a dict while a loop walks it): read, never written while it is so -/
  | frz (o : Obj) (u : HO)
  /-- a code object's table -/
  | tbl (ps : Array Value)
  /-- any other thing, by what is true of its one object (a def of one's own: SetO a S n := HO.ext fun h => ..) -/
  | ext (φ : Heap → Prop)

abbrev Hp := Addr → Option HO
def upd (H : Hp) (a : Addr) (o : HO) : Hp := fun b => if b = a then some o else H b
theorem upd_same {H : Hp} {a : Addr} {o : HO} : upd H a o a = some o := by unfold upd; rw [if_pos rfl]
theorem upd_ne {H : Hp} {a b : Addr} {o : HO} (h : b ≠ a) : upd H a o b = H b := by unfold upd; rw [if_neg h]
theorem upd_upd {H : Hp} {a : Addr} {o u : HO} : upd (upd H a o) a u = upd H a u := by
  funext b; unfold upd; split <;> rfl
/-- two objects of different content stand apart -/
theorem ne_of {H : Hp} {a b : Addr} {o u : HO} (h : H a = some o) (h' : H b = some u) (d : o ≠ u) : a ≠ b := by
  intro e; subst e; rw [h] at h'; exact d (Option.some.inj h')
theorem ne_of_none {H : Hp} {a b : Addr} {o : HO} (h : H a = some o) (h' : H b = none) : a ≠ b := by
  intro e; subst e; rw [h] at h'; cases h'

section
variable (P : Program) (w : World)
def ObjOk (H : Hp) (h : Heap) (a : Addr) : HO → Prop
  | .lst xs => xs.length ≤ sizeLine ∧ ∃ (its : List Value) (n : Nat), Vals xs its ∧ h.get? a = some { cls := .type "list", data := .seq its.toArray n }
  | .tup xs => xs.length ≤ sizeLine ∧ ∃ its : List Value, Vals xs its ∧ IsTup h a its.toArray
  | .dK kvs => kvs.length ≤ sizeLine ∧ (a == sysModules) = false ∧ ∃ vs, KV kvs vs ∧ h.DictOf (mixKind P w) a vs
  | .dT kvs => kvs.length ≤ sizeLine ∧ (a == sysModules) = false ∧ ∃ xs : List (List Key × Addr × Value),
      Paired (fun (p : List Key × V) (q : List Key × Addr × Value) => p.1 = q.1 ∧ H q.2.1 = some (.tup (p.1.map kV)) ∧ RelV p.2 q.2.2) kvs xs ∧
      ∃ o es ep, h.get? a = some o ∧ o.ExactDict ∧ o.data = .dict es ep ∧ es.toList = xs.map (entryOfKey (tupleKind (mixKind P w))) ∧ (xs.map (·.1)).Nodup
  | .set S n => h.SetOf (intKind P w) a S n
  | .ins C dx fs => H dx = some (.own a) ∧ fs.length ≤ 1000 ∧ dx ≠ a ∧ h.get? a = some (PySem.W.instObj C dx) ∧
      ∃ mA, h.Ns1 dx mA ∧ (∀ f, RelO (fs.lookup f) (mA f)) ∧ PySem.Within mA (fs.map (·.1))
  | .own _ => ∃ o, h.get? a = some o
  | .xd fs => ∃ mA, h.Ns1 a mA ∧ ∀ f, RelO (fs.lookup f) (mA f)
  | .rng lo hi => ∃ t u v, h.get? a = some { cls := .type "range", data := .fields #[.int lo t, .int hi u, .int 1 v] }
  | .frz o u => h.get? a = some o ∧ ObjOk H h a u
  | .tbl ps => h.get? a = some { cls := .none, data := .fields ps }
  | .met f x => h.get? a = some (PySem.W.methodObj (.ref f) (.ref x))
  | .ext φ => φ h ∧ (∃ o, h.get? a = some o) ∧ ∀ h1 h2 : Heap, φ h1 → (∀ o, h1.get? a = some o → h2.get? a = some o) → φ h2
/-- the abstract heap is held -/
def HOk (H : Hp) (h : Heap) : Prop := ∀ a o, H a = some o → ObjOk P w H h a o
end

section
variable {P : Program} {w : World} {H H' : Hp} {h h' : Heap} {a : Addr} {o : HO}
theorem ObjOk.lt (x : ObjOk P w H h a o) : a < h.objs.size := by
  cases o with
  | lst xs => obtain ⟨_, _, _, _, e⟩ := x; exact Heap.lt_size e
  | tup xs => obtain ⟨_, _, _, p⟩ := x; exact p.lt
  | dK kvs => obtain ⟨_, _, _, _, o, _, _, e, _⟩ := x; exact Heap.lt_size e
  | dT kvs => obtain ⟨_, _, _, _, o, _, _, e, _⟩ := x; exact Heap.lt_size e
  | set S n => obtain ⟨o, _, _, _, e, _⟩ := x; exact Heap.lt_size e
  | ins C dx fs => obtain ⟨_, _, _, e, _⟩ := x; exact Heap.lt_size e
  | own y => obtain ⟨_, e⟩ := x; exact Heap.lt_size e
  | xd fs => obtain ⟨_, ⟨_, _, _, e, _⟩, _⟩ := x; exact Heap.lt_size e
  | rng lo hi => obtain ⟨_, _, _, e⟩ := x; exact Heap.lt_size e
  | frz ob u => obtain ⟨e, _⟩ := x; exact Heap.lt_size e
  | tbl ps => exact Heap.lt_size (show h.get? a = some _ from x)
  | met f y => exact Heap.lt_size (show h.get? a = some _ from x)
  | ext φ => obtain ⟨_, ⟨_, e⟩, _⟩ := x; exact Heap.lt_size e
theorem Paired.mapP {α β : Type} {F G : α → β → Prop} : ∀ {l₁ : List α} {l₂ : List β}, Paired F l₁ l₂ → (∀ a b, F a b → G a b) → Paired G l₁ l₂
  | _, _, .nil, _ => .nil
  | _, _, .cons r t, f => .cons (f _ _ r) (Paired.mapP t f)
/-- what an object's description leans on: its own object, its own dict, the tuples -/
theorem ObjOk.stay (x : ObjOk P w H h a o) (k : ∀ b u, (b = a ∨ H b = some (.own a)) → h.get? b = some u → h'.get? b = some u)
    (ho : ∀ b, H b = some (.own a) → H' b = some (.own a)) (ht : ∀ b xs, H b = some (.tup xs) → H' b = some (.tup xs)) : ObjOk P w H' h' a o := by
  induction o with
  | lst xs => obtain ⟨z, its, n, r, e⟩ := x; exact ⟨z, its, n, r, k _ _ (.inl rfl) e⟩
  | tup xs => obtain ⟨z, its, r, ob, e, c⟩ := x; exact ⟨z, its, r, ob, k _ _ (.inl rfl) e, c⟩
  | dK kvs => obtain ⟨z, y, vs, r, ob, es, ep, e, c⟩ := x; exact ⟨z, y, vs, r, ob, es, ep, k _ _ (.inl rfl) e, c⟩
  | dT kvs =>
    obtain ⟨z, y, xs, r, ob, es, ep, e, c⟩ := x
    exact ⟨z, y, xs, Paired.mapP r fun p q z => ⟨z.1, ht _ _ z.2.1, z.2.2⟩, ob, es, ep, k _ _ (.inl rfl) e, c⟩
  | set S n => obtain ⟨ob, es, ep, t, e, c⟩ := x; exact ⟨ob, es, ep, t, k _ _ (.inl rfl) e, c⟩
  | ins C dx fs =>
    obtain ⟨d, z, ne, e, mA, ⟨od, es, ep, e2, c⟩, r⟩ := x
    exact ⟨ho _ d, z, ne, k _ _ (.inl rfl) e, mA, ⟨od, es, ep, k _ _ (.inr d) e2, c⟩, r⟩
  | own y => obtain ⟨ob, e⟩ := x; exact ⟨ob, k _ _ (.inl rfl) e⟩
  | xd fs => obtain ⟨mA, ⟨od, es, ep, e, c⟩, r⟩ := x; exact ⟨mA, ⟨od, es, ep, k _ _ (.inl rfl) e, c⟩, r⟩
  | rng lo hi => obtain ⟨t, u, v, e⟩ := x; exact ⟨t, u, v, k _ _ (.inl rfl) e⟩
  | frz ob u ih => obtain ⟨e, q⟩ := x; exact ⟨k _ _ (.inl rfl) e, ih q⟩
  | tbl ps =>
    have e : h.get? a = some { cls := .none, data := .fields ps } := x
    show h'.get? a = some { cls := .none, data := .fields ps }
    exact k a _ (.inl rfl) e
  | met f y =>
    have e : h.get? a = some (PySem.W.methodObj (.ref f) (.ref y)) := x
    show h'.get? a = some (PySem.W.methodObj (.ref f) (.ref y))
    exact k a _ (.inl rfl) e
  | ext φ => obtain ⟨p, ⟨o, e⟩, st⟩ := x; exact ⟨st _ _ p fun o q => k _ _ (.inl rfl) q, ⟨o, k _ _ (.inl rfl) e⟩, st⟩
theorem HOk.lt (x : HOk P w H h) (e : H a = some o) : a < h.objs.size := (x a o e).lt
theorem HOk.fresh (x : HOk P w H h) (e : h.objs.size ≤ a) : H a = none := by
  cases q : H a with
  | none => rfl
  | some u => exact absurd (Nat.lt_of_lt_of_le (x.lt q) e) (Nat.lt_irrefl _)
/-- every object of the heap is kept -/
theorem HOk.kept (x : HOk P w H h) (k : ∀ b u, h.get? b = some u → h'.get? b = some u) : HOk P w H h' := fun a o e =>
  (x a o e).stay (fun b u _ q => k b u q) (fun _ q => q) fun _ _ q => q
/-- a new object is laid and tracked -/
theorem HOk.laid (x : HOk P w H h) (k : ∀ b u, h.get? b = some u → h'.get? b = some u) (hp : h.objs.size ≤ a) (new : ObjOk P w (upd H a o) h' a o) : HOk P w (upd H a o) h' := fun b u e => by
  have hn := x.fresh hp
  by_cases hb : b = a
  · subst hb; rw [upd_same] at e; cases e; exact new
  · rw [upd_ne hb] at e
    exact (x b u e).stay (fun c v _ q => k c v q) (fun c q => by rw [upd_ne (ne_of_none q hn)]; exact q) fun c xs q => by rw [upd_ne (ne_of_none q hn)]; exact q
end

/-- what may be read as u: it is u, or a known u -/
def Rd (H : Hp) (a : Addr) (u : HO) : Prop := H a = some u ∨ ∃ o, H a = some (.frz o u)
theorem Rd.ok {P : Program} {w : World} {H : Hp} {h : Heap} {a : Addr} {u : HO} (r : Rd H a u) (x : HOk P w H h) : ObjOk P w H h a u := by
  rcases r with r | ⟨o, r⟩
  · exact x a u r
  · obtain ⟨_, q⟩ := x a _ r
    exact q
/-- what may be written -/
def Mut : Option HO → Prop
  | some (.lst _) => True
  | some (.dK _) => True
  | some (.dT _) => True
  | some (.set _ _) => True
  | some (.ins _ _ _) => True
  | some (.ext _) => True
  | _ => False
section
variable {P : Program} {w : World} {H : Hp} {h h' : Heap} {x e : Addr} {o' : HO}
/-- the object at e is changed: x itself, or the dict of the instance x -/
theorem HOk.write (ok : HOk P w H h) (mu : Mut (H x)) (he : e = x ∨ H e = some (.own x)) (k : ∀ b u, b ≠ e → h.get? b = some u → h'.get? b = some u) (heo : ∃ u, h'.get? e = some u)
    (new : ObjOk P w (upd H x o') h' x o') : HOk P w (upd H x o') h' := fun b u q => by
  have nown : ∀ c y, H c = some (.own y) → c ≠ x := fun c y r z => by subst z; rw [r] at mu; exact mu
  have ntup : ∀ c xs, H c = some (.tup xs) → c ≠ x := fun c xs r z => by subst z; rw [r] at mu; exact mu
  by_cases hb : b = x
  · subst hb; rw [upd_same] at q; cases q; exact new
  · rw [upd_ne hb] at q
    by_cases hbe : b = e
    · have q' : H b = some (.own x) := by
        rcases he with z | z
        · exact absurd (hbe.trans z) hb
        · rw [hbe]; exact z
      rw [q] at q'; cases q'
      obtain ⟨v, hv⟩ := heo
      exact ⟨v, by rw [hbe]; exact hv⟩
    · refine (ok b u q).stay (fun c v hc r => k c v ?_ r) (fun c r => by rw [upd_ne (nown c b r)]; exact r) fun c xs r => by rw [upd_ne (ntup c xs r)]; exact r
      rcases hc with rfl | hc
      · exact hbe
      · rintro rfl
        rcases he with z | z
        · exact nown c b hc z
        · rw [hc] at z; cases z; exact hb rfl
end

/-! ### kept unless tracked; of the frames at fs (the callers') the slots may change (an exception that passes writes there); of the records at ex (iterators) nothing is said -/
structure Un (fs ex : List Addr) (H H' : Hp) (h h' : Heap) : Prop where
  keep : ∀ b o, h.get? b = some o → H b = none → b ∉ fs → b ∉ ex → h'.get? b = some o
  slot : ∀ b o, h.get? b = some o → H b = none → b ∈ fs → b ∉ ex → ∃ sl, h'.get? b = some { o with slots := sl }
  free : ∀ b o, h.get? b = some o → H b = none → b ∉ ex → H' b = none
  there : ∀ b o, h.get? b = some o → b ∉ ex → ∃ o', h'.get? b = some o'
  tups : ∀ b xs, H b = some (.tup xs) → H' b = some (.tup xs)
  frzs : ∀ b o u, H b = some (.frz o u) → H' b = some (.frz o u)
  tbls : ∀ b ps, H b = some (.tbl ps) → ∃ more, H' b = some (.tbl (ps ++ more))
section
variable {fs fs' ex ex' : List Addr} {H H1 H2 : Hp} {h h1 h2 h' : Heap} {a x e : Addr} {o : HO}
theorem Un.any (u : Un fs ex H H1 h h1) {b : Addr} {ob : Obj} (q : h.get? b = some ob) (n : H b = none) (hx : b ∉ ex) : ∃ sl, h1.get? b = some { ob with slots := sl } := by
  by_cases hb : b ∈ fs
  · exact u.slot b ob q n hb hx
  · exact ⟨ob.slots, u.keep b ob q n hb hx⟩
theorem Un.kept (k : ∀ b u, h.get? b = some u → h'.get? b = some u) : Un fs ex H H h h' :=
  ⟨fun b ob q _ _ _ => k b ob q, fun b ob q _ _ _ => ⟨ob.slots, k b ob q⟩, fun _ _ _ n _ => n, fun b ob q _ => ⟨ob, k b ob q⟩, fun _ _ q => q, fun _ _ _ q => q, fun _ ps q => ⟨#[], by rw [q]; simp⟩⟩
theorem Un.refl : Un fs ex H H h h := Un.kept fun _ _ q => q
theorem Un.laid (k : ∀ b u, h.get? b = some u → h'.get? b = some u) (hp : h.objs.size ≤ a) (hn : H a = none) : Un fs ex H (upd H a o) h h' where
  keep := fun b u q _ _ _ => k b u q
  slot := fun b u q _ _ _ => ⟨u.slots, k b u q⟩
  free := fun b u q n _ => by rw [upd_ne (Nat.ne_of_lt (Nat.lt_of_lt_of_le (Heap.lt_size q) hp))]; exact n
  there := fun b u q _ => ⟨u, k b u q⟩
  tups := fun b xs q => by rw [upd_ne (ne_of_none q hn)]; exact q
  frzs := fun b u xs q => by rw [upd_ne (ne_of_none q hn)]; exact q
  tbls := fun b ps q => ⟨#[], by rw [upd_ne (ne_of_none q hn), q]; simp⟩
theorem Un.write (mu : Mut (H x)) (he : e = x ∨ H e = some (.own x)) (k : ∀ b u, b ≠ e → h.get? b = some u → h'.get? b = some u) (heo : ∃ u, h'.get? e = some u) : Un fs ex H (upd H x o) h h' := by
  have hx : ∀ b, H b = none → b ≠ x := fun b n z => by subst z; rw [n] at mu; exact mu
  have hb : ∀ b, H b = none → b ≠ e := fun b n z => by
    subst z
    rcases he with r | r
    · exact hx b n r
    · rw [n] at r; cases r
  have hm : ∀ b u, H b = some u → ¬ Mut (some u) → b ≠ x := fun b u q nm z => by subst z; rw [q] at mu; exact nm mu
  refine ⟨fun b u q n _ _ => k b u (hb b n) q, fun b u q n _ _ => ⟨u.slots, k b u (hb b n) q⟩, fun b u q n _ => by rw [upd_ne (hx b n)]; exact n, fun b u q _ => ?_,
    fun b xs q => by rw [upd_ne (hm b _ q fun z => z)]; exact q, fun b u xs q => by rw [upd_ne (hm b _ q fun z => z)]; exact q, fun b ps q => ⟨#[], by rw [upd_ne (hm b _ q fun z => z), q]; simp⟩⟩
  by_cases hbe : b = e
  · subst hbe; exact heo
  · exact ⟨u, k b u hbe q⟩
end

/-! ### the heap without what is tracked -/
def trk (h : Heap) (H : Hp) : List Addr := (List.range h.objs.size).filter fun a => (H a).isSome
def hidT (h : Heap) (H : Hp) : Heap := PySem.W.hideAll h (trk h H)
theorem hidT_size (h : Heap) (H : Hp) : (hidT h H).objs.size = h.objs.size := PySem.W.hideAll_size _ _
theorem hidT_get {h : Heap} {H : Hp} {b : Addr} {o : Obj} (e : h.get? b = some o) (n : H b = none) : (hidT h H).get? b = some o :=
  PySem.W.hideAll_get _ e fun hm => by
    have q : (H b).isSome = true := (List.mem_filter.mp hm).2
    rw [n] at q; simp at q
theorem of_hidT {h : Heap} {H : Hp} {b : Addr} {o : Obj} (e : (hidT h H).get? b = some o) : h.get? b = some o ∧ H b = none := by
  have e' : h.get? b = some o := PySem.W.of_hideAll (trk h H) e
  refine ⟨e', ?_⟩
  cases q : H b with
  | none => rfl
  | some x =>
    have hm : b ∈ trk h H := List.mem_filter.mpr ⟨List.mem_range.mpr (Heap.lt_size e'), by simp [q]⟩
    have z : (hidT h H).get? b = none := PySem.W.hideAll_none (trk h H) hm
    rw [z] at e; cases e

/-! ### OpenK's ledger, filled with every new object but one -/
def allNews (g h : Heap) (L : Addr) : List (Addr × Obj) := (List.range h.objs.size).filterMap fun a => if a = L ∨ (g.get? a).isSome = true then none else (h.get? a).map fun o => (a, o)
def rest (g h : Heap) (L d : Addr) : List (Addr × Obj) := (allNews g h L).filter fun p => decide (p.1 ≠ d)
end L2

namespace L2
open PySem PySem.Spec PyProof.Rows

/-- the module's facts, over the base: the heap at the law's entry without what is tracked there -/
structure Mod (K : PySem.W.Frag) (mg : Str → Option Value) (base : Heap) : Prop where
  kin : K.In base
  glob : base.Ns mainGlobals mg
  blt : ∃ mb, base.Ns builtinsNs mb ∧ ∀ x : Str, x ≠ "__name__" → mb x = bootBuiltins x
  nolimit : base.NoLimit

/-- the context: a def's body (or a comprehension's block) running. base: fixed through the whole law; s₀, H₀: the entry; outer: the frames whose slots others may change (a def's callers); stack: all frames that run;
   ex: iterators that were made ahead of the entry and are walked here (a comprehension's); fn: the names whose cells were made at the entry (a def: all; a comprehension's block: its own); calm: not within an except suite; pn: pins that every state bears; xe: what is wanted of an exception that leaves the code -/
structure Cx where
  prog : Program
  w : World
  K : PySem.W.Frag
  mg : Str → Option Value
  base : Heap
  A : Around
  N : List Str
  s₀ : Shared
  H₀ : Hp
  env : Env
  outer : List Env
  stack : List Env
  ex : List Addr
  fn : Str → Bool
  calm : Bool
  pn : List (Addr × Obj)
  xe : Value → Shared → Prop
/-- the callers' frames -/
def frs (l : List Env) : List Addr := l.filterMap (·.frame)
abbrev Cx.fs (X : Cx) : List Addr := frs X.outer

def Vis (sc : Scope) (x : Str) : Prop := sc.names.lookup x = some .local ∨ sc.names.lookup x = some .cell ∨ sc.names.lookup x = some .free
def Loc (sc : Scope) (x : Str) : Prop := sc.names.lookup x = some .local ∨ sc.names.lookup x = some .cell
def Look (env : Env) (h : Heap) (m : Str → Option Value) (x : Str) (u : Value) : Prop :=
  (env.kindOf x = some .local ∧ m x = some u) ∨ ((env.kindOf x = some .cell ∨ env.kindOf x = some .free) ∧ ∃ c, env.cells.lookup x = some c ∧ h.IsCell c (some u))

structure Cx.Ok (X : Cx) : Prop where
  mod : Mod X.K X.mg X.base
  kind : X.env.scope.kind = .function
  glob : X.env.globals = mainGlobals
  blt : X.env.builtins = builtinsNs
  above : X.s₀.heap.objs.size ≤ X.env.locals
  inj : ∀ x y c, X.env.cells.lookup x = some c → X.env.cells.lookup y = some c → x = y
  has : ∀ x, (X.env.kindOf x = some .cell ∨ X.env.kindOf x = some .free) → ∃ c, X.env.cells.lookup x = some c
  cab : ∀ x c, X.fn x = true → X.env.cells.lookup x = some c → X.s₀.heap.objs.size ≤ c
  hd : X.calm = true → X.A.handled = none
  frames : X.A.frames = some X.stack
  stk : X.stack = X.outer ∨ (X.stack = X.env :: X.outer ∧ X.env.frame = some X.env.locals)
  exf : ∀ b ∈ X.ex, b ≠ X.env.locals ∧ ∀ x c, X.env.cells.lookup x = some c → c ≠ b
  bs : ∀ b o, X.base.get? b = some o → X.s₀.heap.get? b = some o ∧ X.H₀ b = none
  bsz : X.base.objs.size ≤ X.s₀.heap.objs.size
  noex : ∀ b o, X.base.get? b = some o → b ∉ X.ex
  exfs : ∀ b ∈ X.ex, b ∉ X.fs
  funs : X.s₀.heap.FunFrames X.base X.outer
  frf : ∀ b ∈ X.fs, X.H₀ b = none

structure Inv (X : Cx) (pins : List (Addr × Obj)) (σ : List (Option V)) (H : Hp) (s : Shared) : Prop where
  ok : X.Ok
  os : s.os = X.s₀.os
  bare : AllBare s.gens
  base : Un X.fs X.ex X.H₀ H X.s₀.heap s.heap
  loc : ∃ m, s.heap.Ns X.env.locals m ∧ ∀ (i : Nat) (x : Str) (v : V), X.N[i]? = some x → σ[i]? = some (some v) → Vis X.env.scope x → ∃ u, RelV v u ∧ Look X.env s.heap m x u
  cell : ∀ x c, X.env.cells.lookup x = some c → ∃ v, s.heap.IsCell c v
  free : H X.env.locals = none
  freeC : ∀ x c, X.env.cells.lookup x = some c → H c = none
  pin : ∀ p ∈ X.pn ++ pins, s.heap.get? p.1 = some p.2 ∧ H p.1 = none ∧ p.1 ≠ X.env.locals ∧ p.1 ∉ X.fs ∧ ∀ v, p.2.data ≠ .cell v
  hok : HOk X.prog X.w H s.heap
  len : σ.length = X.N.length

section
variable {X : Cx} {pins : List (Addr × Obj)} {σ : List (Option V)} {H H' : Hp} {s : Shared} {h' : Heap}

theorem Cx.Ok.nofr (ok : X.Ok) {b : Addr} {o : Obj} (e : X.base.get? b = some o) : b ∉ X.fs := fun hb => by
  have := (ok.funs.mem hb).1
  rw [e] at this; cases this
theorem Inv.bs (I : Inv X pins σ H s) : ∀ b o, X.base.get? b = some o → s.heap.get? b = some o ∧ H b = none := fun b o e =>
  ⟨I.base.keep b o (I.ok.bs b o e).1 (I.ok.bs b o e).2 (I.ok.nofr e) (I.ok.noex b o e), I.base.free b o (I.ok.bs b o e).1 (I.ok.bs b o e).2 (I.ok.noex b o e)⟩
theorem Inv.bk (I : Inv X pins σ H s) : ∀ b o, X.base.get? b = some o → s.heap.get? b = some o := fun b o e => (I.bs b o e).1
theorem Inv.mod (I : Inv X pins σ H s) : Mod X.K X.mg X.base := I.ok.mod
theorem Inv.kIn (I : Inv X pins σ H s) : X.K.In s.heap := I.ok.mod.kin.keeps I.bk
theorem Inv.lt (I : Inv X pins σ H s) : X.env.locals < s.heap.objs.size := let ⟨_, hn, _⟩ := I.loc; hn.lt
theorem Inv.sz (I : Inv X pins σ H s) : X.s₀.heap.objs.size ≤ s.heap.objs.size := Nat.le_trans I.ok.above (Nat.le_of_lt I.lt)
theorem Inv.nofs (I : Inv X pins σ H s) {a : Addr} (h : s.heap.objs.size ≤ a) : a ∉ X.fs := fun hb => by
  obtain ⟨_, o, ho, _⟩ := I.ok.funs.mem hb
  exact absurd (Nat.lt_of_lt_of_le (Heap.lt_size ho) (Nat.le_trans I.sz h)) (Nat.lt_irrefl _)
theorem Inv.cne (I : Inv X pins σ H s) : ∀ x c, X.env.cells.lookup x = some c → c ≠ X.env.locals := fun x c e z => by
  obtain ⟨v, o, ho, hd⟩ := I.cell x c e
  obtain ⟨m, ⟨o', es, ep, ho', hd', _⟩, _⟩ := I.loc
  rw [z, ho'] at ho; cases ho; rw [hd'] at hd; cases hd
theorem Inv.funs (I : Inv X pins σ H s) : s.heap.FunFrames X.base X.outer := by
  have all : ∀ (l : List Env), (∀ b ∈ frs l, b ∈ X.fs) → X.s₀.heap.FunFrames X.base l → s.heap.FunFrames X.base l := by
    intro l
    induction l with
    | nil => intro _ _; trivial
    | cons env r ih =>
      intro hs hl
      obtain ⟨hk, ⟨L, o, hf, hn, ho, hd⟩, hr⟩ := hl
      have hL : L ∈ X.fs := hs L (by unfold frs; rw [List.filterMap_cons, hf]; exact List.mem_cons_self)
      obtain ⟨sl, e⟩ := I.base.slot L o ho (I.ok.frf L hL) hL fun z => I.ok.exfs L z hL
      exact ⟨hk, ⟨L, _, hf, hn, e, hd⟩, ih (fun b hb => hs b (by unfold frs; rw [List.filterMap_cons, hf]; exact List.mem_cons_of_mem _ hb)) hr⟩
  exact all X.outer (fun _ hb => hb) I.ok.funs

/-- the frames that run, for a call -/
theorem Inv.stack (I : Inv X pins σ H s) : s.heap.FunFrames X.base X.stack := by
  rcases I.ok.stk with e | ⟨e, hf⟩
  · rw [e]; exact I.funs
  · rw [e]
    obtain ⟨m, hn, _⟩ := I.loc
    refine .cons (by rw [I.ok.kind]; decide) hf hn ?_ I.funs
    exact Heap.get?_none_of_le (Nat.le_trans I.ok.bsz I.ok.above)
theorem Inv.stkSub (I : Inv X pins σ H s) : ∀ b ∈ frs X.stack, b ∈ X.env.locals :: X.fs := fun b hb => by
  rcases I.ok.stk with e | ⟨e, hf⟩
  · rw [e] at hb; exact List.mem_cons_of_mem _ hb
  · rw [e] at hb
    unfold frs at hb
    rw [List.filterMap_cons, hf] at hb
    exact hb
theorem Inv.stkFree (I : Inv X pins σ H s) : ∀ b ∈ frs X.stack, H b = none := fun b hb => by
  rcases List.mem_cons.mp (I.stkSub b hb) with e | hb
  · rw [e]; exact I.free
  · obtain ⟨_, o, ho, _⟩ := I.ok.funs.mem hb
    exact I.base.free b o ho (I.ok.frf b hb) fun z => I.ok.exfs b z hb

/-- THE STEP: the untracked objects but the frame and the records at ch are kept (the callers' frames up to slots), the frame's map is kept, the new abstract heap is held -/
theorem Inv.step {g' : Array GenState} {t' : Nat} {d' : Drawn} {ch : List Addr} (I : Inv X pins σ H s)
    (hch : ∀ b ∈ ch, (b ∈ X.ex ∨ X.s₀.heap.objs.size ≤ b) ∧ b ≠ X.env.locals ∧ (∀ x c, X.env.cells.lookup x = some c → c ≠ b) ∧ ∀ p ∈ X.pn ++ pins, p.1 ≠ b)
    (keep : ∀ b o, b ≠ X.env.locals → b ∉ X.fs → b ∉ ch → s.heap.get? b = some o → H b = none → h'.get? b = some o)
    (slot : ∀ b o, b ≠ X.env.locals → b ∈ X.fs → b ∉ ch → s.heap.get? b = some o → H b = none → ∃ sl, h'.get? b = some { o with slots := sl }) (free : ∀ b o, b ∉ ch → s.heap.get? b = some o → H b = none → H' b = none)
    (there : ∀ b o, b ∉ ch → s.heap.get? b = some o → ∃ o', h'.get? b = some o')
    (tups : ∀ b xs, H b = some (.tup xs) → H' b = some (.tup xs)) (frzs : ∀ b o u, H b = some (.frz o u) → H' b = some (.frz o u)) (tbls : ∀ b ps, H b = some (.tbl ps) → ∃ more, H' b = some (.tbl (ps ++ more)))
    (ns : ∀ m, s.heap.Ns X.env.locals m → h'.Ns X.env.locals m) (hok : HOk X.prog X.w H' h') (hg : AllBare g') :
    Inv X pins σ H' { s with heap := h', gens := g', drawn := d', toks := t' } := by
  have neL : ∀ b o, X.s₀.heap.get? b = some o → b ≠ X.env.locals := fun b o e => Nat.ne_of_lt (Nat.lt_of_lt_of_le (Heap.lt_size e) I.ok.above)
  have neC : ∀ b o, X.s₀.heap.get? b = some o → b ∉ X.ex → b ∉ ch := fun b o e hx hb => by
    rcases (hch b hb).1 with z | z
    · exact hx z
    · exact absurd (Nat.lt_of_lt_of_le (Heap.lt_size e) z) (Nat.lt_irrefl _)
  have cellK : ∀ x c, X.env.cells.lookup x = some c → ∀ v, s.heap.IsCell c v → h'.IsCell c v := fun x c e v ⟨o, ho, hd⟩ => by
    have nch : c ∉ ch := fun z => (hch c z).2.2.1 x c e rfl
    by_cases hc : c ∈ X.fs
    · obtain ⟨sl, q⟩ := slot c o (I.cne x c e) hc nch ho (I.freeC x c e)
      exact ⟨_, q, hd⟩
    · exact ⟨o, keep c o (I.cne x c e) hc nch ho (I.freeC x c e), hd⟩
  refine ⟨I.ok, I.os, hg, ⟨fun b o e n hb hx => ?_, fun b o e n hb hx => ?_, fun b o e n hx => ?_, fun b o e hx => ?_, fun b xs e => tups b xs (I.base.tups b xs e), fun b o xs e => frzs b o xs (I.base.frzs b o xs e), fun b ps e => ?_⟩, ?_, fun x c e => ?_, ?_, fun x c e => ?_, fun p hp => ?_, hok, I.len⟩
  · exact keep b o (neL b o e) hb (neC b o e hx) (I.base.keep b o e n hb hx) (I.base.free b o e n hx)
  · obtain ⟨sl, e1⟩ := I.base.slot b o e n hb hx
    obtain ⟨sl', e2⟩ := slot b _ (neL b o e) hb (neC b o e hx) e1 (I.base.free b o e n hx)
    exact ⟨sl', e2⟩
  · obtain ⟨o', e1⟩ := I.base.there b o e hx
    exact free b o' (neC b o e hx) e1 (I.base.free b o e n hx)
  · obtain ⟨o', e1⟩ := I.base.there b o e hx
    exact there b o' (neC b o e hx) e1
  · obtain ⟨m1, e1⟩ := I.base.tbls b ps e
    obtain ⟨m2, e2⟩ := tbls b _ e1
    exact ⟨m1 ++ m2, by rw [e2, Array.append_assoc]⟩
  · obtain ⟨m, hn, hl⟩ := I.loc
    refine ⟨m, ns m hn, fun i x v e1 e2 e3 => ?_⟩
    obtain ⟨u, r, l⟩ := hl i x v e1 e2 e3
    refine ⟨u, r, ?_⟩
    rcases l with l | ⟨k, c, e, z⟩
    · exact .inl l
    · exact .inr ⟨k, c, e, cellK x c e _ z⟩
  · obtain ⟨v, z⟩ := I.cell x c e
    exact ⟨v, cellK x c e v z⟩
  · obtain ⟨m, ⟨o, _, _, ho, _⟩, _⟩ := I.loc
    exact free _ o (fun z => (hch _ z).2.1 rfl) ho I.free
  · obtain ⟨v, o, ho, hd⟩ := I.cell x c e
    exact free c o (fun z => (hch c z).2.2.1 x c e rfl) ho (I.freeC x c e)
  · obtain ⟨e, n, ne, nf, d⟩ := I.pin p hp
    have nch : p.1 ∉ ch := fun z => (hch p.1 z).2.2.2 p hp rfl
    exact ⟨keep p.1 p.2 ne nf nch e n, free p.1 p.2 nch e n, ne, nf, d⟩
/-- .. where the frame's own object is kept too -/
theorem Inv.un {t' : Nat} (I : Inv X pins σ H s) (u : Un X.fs [] H H' s.heap h') (hok : HOk X.prog X.w H' h') : Inv X pins σ H' { s with heap := h', toks := t' } := by
  obtain ⟨m, ⟨o, es, ep, ho, r⟩, _⟩ := id I.loc
  obtain ⟨sl, hL⟩ := u.any ho I.free (by simp)
  exact I.step (g' := s.gens) (d' := s.drawn) (ch := []) (fun _ z => nomatch z) (fun b o _ hb _ e n => u.keep b o e n hb (by simp)) (fun b o _ hb _ e n => u.slot b o e n hb (by simp)) (fun b o _ e n => u.free b o e n (by simp)) (fun b o _ e => u.there b o e (by simp)) u.tups u.frzs u.tbls (fun m' hm => by
    obtain ⟨o', es', ep', ho', r'⟩ := hm
    rw [ho] at ho'; cases ho'
    exact ⟨_, es', ep', hL, r'⟩) hok I.bare
/-- behind a call (or a comprehension's block): the slots of this frame may have changed too, the records at ch may have turned -/
theorem Inv.call {g' : Array GenState} {t' : Nat} {d' : Drawn} {ch : List Addr} (I : Inv X pins σ H s) (u : Un (frs X.stack) ch H H' s.heap h') (hok : HOk X.prog X.w H' h') (hg : AllBare g')
    (hch : ∀ b ∈ ch, (b ∈ X.ex ∨ X.s₀.heap.objs.size ≤ b) ∧ b ≠ X.env.locals ∧ (∀ x c, X.env.cells.lookup x = some c → c ≠ b) ∧ ∀ p ∈ X.pn ++ pins, p.1 ≠ b) :
    Inv X pins σ H' { s with heap := h', gens := g', drawn := d', toks := t' } := by
  obtain ⟨m, ⟨o, es, ep, ho, r⟩, _⟩ := id I.loc
  obtain ⟨sl, hL⟩ := u.any ho I.free fun z => (hch _ z).2.1 rfl
  exact I.step (ch := ch) hch (fun b o hL hb hc e n => u.keep b o e n (fun z => (List.mem_cons.mp (I.stkSub b z)).elim hL hb) hc) (fun b o _ _ hc e n => u.any e n hc) (fun b o hc e n => u.free b o e n hc) (fun b o hc e => u.there b o e hc) u.tups u.frzs u.tbls (fun m' hm => by
    obtain ⟨o', es', ep', ho', r'⟩ := hm
    rw [ho] at ho'; cases ho'
    exact ⟨_, es', ep', hL, r'⟩) hok hg
/-- an untracked record of ours (an iterator) has turned -/
theorem Inv.turned {t' : Nat} {it : Addr} (I : Inv X pins σ H s) (k : ∀ b o, b ≠ it → s.heap.get? b = some o → h'.get? b = some o) (hn : H it = none) (hL : it ≠ X.env.locals)
    (h1 : it ∈ X.ex ∨ X.s₀.heap.objs.size ≤ it) (h2 : ∀ x c, X.env.cells.lookup x = some c → c ≠ it) (h3 : ∀ p ∈ X.pn ++ pins, p.1 ≠ it) : Inv X pins σ H { s with heap := h', toks := t' } := by
  have nit : ∀ b u, H b = some u → b ≠ it := fun b u e z => by rw [z, hn] at e; cases e
  refine I.step (g' := s.gens) (d' := s.drawn) (ch := [it]) (fun b hb => ?_) (fun b o _ _ hc e _ => k b o (fun z => hc (by simp [z])) e) (fun b o _ _ hc e _ => ⟨o.slots, k b o (fun z => hc (by simp [z])) e⟩) (fun _ _ _ _ n => n)
    (fun b o hc e => ⟨o, k b o (fun z => hc (by simp [z])) e⟩) (fun _ _ e => e) (fun _ _ _ e => e) (fun b ps e => ⟨#[], by rw [e]; simp⟩) (fun m hm => ?_) (fun b u e => ?_) I.bare
  · have e : b = it := by simpa using hb
    subst e
    exact ⟨h1, hL, h2, h3⟩
  · obtain ⟨o, es, ep, ho, r⟩ := hm
    exact ⟨o, es, ep, k _ o (Ne.symm hL) ho, r⟩
  · refine (I.hok b u e).stay (fun c v hc q => k c v ?_ q) (fun _ q => q) fun _ _ q => q
    rcases hc with z | z
    · rw [z]; exact nit b u e
    · exact nit c _ z
theorem Inv.tok (I : Inv X pins σ H s) (t : Nat) : Inv X pins σ H { s with toks := t } := I.un (h' := s.heap) (t' := t) Un.refl I.hok
/-- all objects kept -/
theorem Inv.kept {t' : Nat} (I : Inv X pins σ H s) (k : ∀ b u, s.heap.get? b = some u → h'.get? b = some u) : Inv X pins σ H { s with heap := h', toks := t' } := I.un (Un.kept k) (I.hok.kept k)
/-- a new object laid and tracked -/
theorem Inv.laid {a : Addr} {o : HO} {t' : Nat} (I : Inv X pins σ H s) (k : ∀ b u, s.heap.get? b = some u → h'.get? b = some u) (hp : s.heap.objs.size ≤ a) (new : ObjOk X.prog X.w (upd H a o) h' a o) :
    Inv X pins σ (upd H a o) { s with heap := h', toks := t' } := I.un (Un.laid k hp (I.hok.fresh hp)) (I.hok.laid k hp new)
/-- an object written -/
theorem Inv.write {x e : Addr} {o : HO} {t' : Nat} (I : Inv X pins σ H s) (mu : Mut (H x)) (he : e = x ∨ H e = some (.own x)) (k : ∀ b u, b ≠ e → s.heap.get? b = some u → h'.get? b = some u) (heo : ∃ u, h'.get? e = some u)
    (new : ObjOk X.prog X.w (upd H x o) h' x o) : Inv X pins σ (upd H x o) { s with heap := h', toks := t' } := I.un (Un.write mu he k heo) (I.hok.write mu he k heo new)
/-- forgetting slots, pins -/
theorem Inv.weak {σ' : List (Option V)} (I : Inv X pins σ H s) (hl : σ'.length = σ.length) (w : ∀ (i : Nat) v, σ'[i]? = some (some v) → σ[i]? = some (some v)) : Inv X pins σ' H s :=
  ⟨I.ok, I.os, I.bare, I.base, let ⟨m, hn, hl'⟩ := I.loc; ⟨m, hn, fun i x v e1 e2 e3 => hl' i x v e1 (w i v e2) e3⟩, I.cell, I.free, I.freeC, I.pin, I.hok, hl.trans I.len⟩
theorem Inv.pins_of {pins' : List (Addr × Obj)} (I : Inv X pins σ H s) (h : ∀ p ∈ pins', s.heap.get? p.1 = some p.2 ∧ H p.1 = none ∧ p.1 ≠ X.env.locals ∧ p.1 ∉ X.fs ∧ ∀ v, p.2.data ≠ .cell v) : Inv X pins' σ H s :=
  ⟨I.ok, I.os, I.bare, I.base, I.loc, I.cell, I.free, I.freeC, fun p hp => (List.mem_append.mp hp).elim (fun z => I.pin p (List.mem_append_left _ z)) (h p), I.hok, I.len⟩

theorem nodup_ix {N : List Str} (hN : N.Nodup) {i j : Nat} {x : Str} (a : N[i]? = some x) (b : N[j]? = some x) : i = j := by
  obtain ⟨h1, e1⟩ := List.getElem?_eq_some_iff.mp a
  obtain ⟨h2, e2⟩ := List.getElem?_eq_some_iff.mp b
  exact (List.getElem_inj hN).mp (e1.trans e2.symm)

/-- a name is stored; what changed -/
theorem store_ok2 {M : Model} {A : Around} {E : Value → Shared → Prop} {i : Nat} {x : Str} {v : V} {u : Value} {Q : Unit → Shared → Prop} (I : Inv X pins σ H s) (hN : X.N.Nodup) (hi : X.N[i]? = some x) (hx : Loc X.env.scope x) (r : RelV v u)
    (h : ∀ s', Inv X pins (σ.set i (some v)) H s' → (∃ a, Heap.SameBut a s.heap s'.heap ∧ (a = X.env.locals ∨ X.env.cells.lookup x = some a)) → Q () s') (hf : X.fn x = true ∨ X.env.scope.names.lookup x = some .local := by first | exact .inl rfl | exact .inr rfl | assumption) : wpAny M A (storeName X.env x u) Q E s := by
  obtain ⟨m, hn, hl⟩ := id I.loc
  have hcls : (X.env.scope.kind == .class || (X.env.scope.kind == .module && X.env.locals != X.env.globals)) = false := by rw [I.ok.kind]; rfl
  have hiσ : i < σ.length := by rw [I.len]; exact (List.getElem?_eq_some_iff.mp hi).1
  have cne := I.cne
  have tracked : ∀ {a : Addr} {h' : Heap}, (∃ o, s.heap.get? a = some o ∧ H a = none) → Heap.SameBut a s.heap h' → HOk X.prog X.w H h' := fun {a h'} ha hs b ob e => by
    obtain ⟨_, _, hfree⟩ := ha
    refine (I.hok b ob e).stay (fun c w' hc q => (hs.2 c ?_).trans q) (fun _ q => q) fun _ _ q => q
    rintro rfl
    rcases hc with rfl | hc
    · rw [hfree] at e; cases e
    · rw [hfree] at hc; cases hc
  rcases hx with hk | hk
  · refine wpAny_storeName_local hk hn (fun h' hn' hs => ?_) hcls
    obtain ⟨oL, _, _, hoL, _⟩ := id hn
    refine h _ ⟨I.ok, I.os, I.bare, ⟨fun b o e n hb hx => ?_, fun b o e n hb hx => ?_, I.base.free, fun b o e hx => ?_, I.base.tups, I.base.frzs, I.base.tbls⟩, ⟨_, hn', fun j y v' e1 e2 e3 => ?_⟩, fun y c e => ?_, I.free, I.freeC, fun p hp => ?_, tracked ⟨oL, hoL, I.free⟩ hs, by simpa using I.len⟩ ⟨_, hs, .inl rfl⟩
    · exact (hs.2 b (Nat.ne_of_lt (Nat.lt_of_lt_of_le (Heap.lt_size e) I.ok.above))).trans (I.base.keep b o e n hb hx)
    · obtain ⟨sl, e1⟩ := I.base.slot b o e n hb hx
      exact ⟨sl, (hs.2 b (Nat.ne_of_lt (Nat.lt_of_lt_of_le (Heap.lt_size e) I.ok.above))).trans e1⟩
    · obtain ⟨o', e1⟩ := I.base.there b o e hx
      exact ⟨o', (hs.2 b (Nat.ne_of_lt (Nat.lt_of_lt_of_le (Heap.lt_size e) I.ok.above))).trans e1⟩
    · by_cases hj : j = i
      · subst hj
        rw [hi] at e1; cases e1
        rw [List.getElem?_set_self hiσ] at e2
        cases e2
        exact ⟨u, r, .inl ⟨hk, by simp⟩⟩
      · rw [List.getElem?_set_ne (Ne.symm hj)] at e2
        obtain ⟨u', r', q⟩ := hl j y v' e1 e2 e3
        refine ⟨u', r', ?_⟩
        rcases q with ⟨k, e⟩ | ⟨k, c, e, z⟩
        · refine .inl ⟨k, ?_⟩
          have : y ≠ x := fun e => hj (nodup_ix hN e1 (e ▸ hi))
          simp [this, e]
        · exact .inr ⟨k, c, e, z.sameBut hs (cne y c e)⟩
    · obtain ⟨w', z⟩ := I.cell y c e
      exact ⟨w', z.sameBut hs (cne y c e)⟩
    · obtain ⟨e, n, ne, nf, d⟩ := I.pin p hp
      exact ⟨(hs.2 p.1 ne).trans e, n, ne, nf, d⟩
  · have hfn : X.fn x = true := by
      rcases hf with z | z
      · exact z
      · rw [z] at hk; cases hk
    obtain ⟨c, hc⟩ := I.ok.has x (.inl hk)
    obtain ⟨w', z⟩ := I.cell x c hc
    refine wpAny_storeName_cell I.ok.kind hk hc z (fun h' hc' hs => ?_)
    obtain ⟨oc, hoc, hocd⟩ := id z
    refine h { s with heap := h' } ⟨I.ok, I.os, I.bare, ⟨fun b o e n hb hx => ?_, fun b o e n hb hx => ?_, I.base.free, fun b o e hx => ?_, I.base.tups, I.base.frzs, I.base.tbls⟩, ⟨m, hn.sameBut hs (Ne.symm (cne x c hc)), fun j y v' e1 e2 e3 => ?_⟩, fun y c' e => ?_, I.free, I.freeC, fun p hp => ?_, tracked ⟨oc, hoc, I.freeC x c hc⟩ hs, by simpa using I.len⟩ ⟨c, hs, .inr hc⟩
    · exact (hs.2 b (Nat.ne_of_lt (Nat.lt_of_lt_of_le (Heap.lt_size e) (I.ok.cab x c hfn hc)))).trans (I.base.keep b o e n hb hx)
    · obtain ⟨sl, e1⟩ := I.base.slot b o e n hb hx
      exact ⟨sl, (hs.2 b (Nat.ne_of_lt (Nat.lt_of_lt_of_le (Heap.lt_size e) (I.ok.cab x c hfn hc)))).trans e1⟩
    · obtain ⟨o', e1⟩ := I.base.there b o e hx
      exact ⟨o', (hs.2 b (Nat.ne_of_lt (Nat.lt_of_lt_of_le (Heap.lt_size e) (I.ok.cab x c hfn hc)))).trans e1⟩
    · by_cases hj : j = i
      · subst hj
        rw [hi] at e1; cases e1
        rw [List.getElem?_set_self hiσ] at e2
        cases e2
        exact ⟨u, r, .inr ⟨.inl hk, c, hc, hc'⟩⟩
      · rw [List.getElem?_set_ne (Ne.symm hj)] at e2
        obtain ⟨u', r', q⟩ := hl j y v' e1 e2 e3
        refine ⟨u', r', ?_⟩
        rcases q with q | ⟨k, c', e, z'⟩
        · exact .inl q
        · refine .inr ⟨k, c', e, z'.sameBut hs ?_⟩
          rintro rfl
          exact hj (nodup_ix hN e1 (I.ok.inj _ _ _ e hc ▸ hi))
    · by_cases hcc : c' = c
      · subst hcc; exact ⟨_, hc'⟩
      · obtain ⟨w2, z2⟩ := I.cell y c' e
        exact ⟨w2, z2.sameBut hs hcc⟩
    · obtain ⟨e, n, ne, nf, d⟩ := I.pin p hp
      refine ⟨(hs.2 p.1 ?_).trans e, n, ne, nf, d⟩
      intro q
      rw [q, hoc] at e
      have q' : oc = p.2 := Option.some.inj e
      exact d w' (by rw [← q']; exact hocd)
theorem store_ok {M : Model} {A : Around} {E : Value → Shared → Prop} {i : Nat} {x : Str} {v : V} {u : Value} {Q : Unit → Shared → Prop} (I : Inv X pins σ H s) (hN : X.N.Nodup) (hi : X.N[i]? = some x) (hx : Loc X.env.scope x) (r : RelV v u)
    (h : ∀ s', Inv X pins (σ.set i (some v)) H s' → Q () s') (hf : X.fn x = true ∨ X.env.scope.names.lookup x = some .local := by first | exact .inl rfl | exact .inr rfl | assumption) : wpAny M A (storeName X.env x u) Q E s :=
  store_ok2 I hN hi hx r (fun s' I' _ => h s' I') hf
/-- behind a call or a block, the state as it is -/
theorem Inv.call' {s' : Shared} {ch : List Addr} (I : Inv X pins σ H s) (ho : s'.os = s.os) (u : Un (frs X.stack) ch H H' s.heap s'.heap) (hok : HOk X.prog X.w H' s'.heap) (hg : AllBare s'.gens)
    (hch : ∀ b ∈ ch, (b ∈ X.ex ∨ X.s₀.heap.objs.size ≤ b) ∧ b ≠ X.env.locals ∧ (∀ x c, X.env.cells.lookup x = some c → c ≠ b) ∧ ∀ p ∈ X.pn ++ pins, p.1 ≠ b) : Inv X pins σ H' s' := by
  obtain ⟨h', g', d', t', o'⟩ := s'
  have e : o' = s.os := ho
  subst e
  exact I.call (g' := g') (t' := t') (d' := d') u hok hg hch
end

/-! ### the judgements -/
/-- an exception: its class, its own dict's address (where it has one), the abstract heap behind it -/
abbrev XK := Value → Option Addr → Hp → Prop
abbrev St := List (Option V)
abbrev VK := V → Hp → Prop
/-- an expression's reading; a test's; an argument list's -/
abbrev TE := St → Hp → VK → Prop
abbrev TT := St → Hp → (Bool → Hp → Prop) → Prop
abbrev TA := St → Hp → (List V → Hp → Prop) → Prop
/-- what is wanted behind a statement -/
structure Ends where
  nx : St → Hp → Prop
  rt : VK
  bk : St → Hp → Prop := fun _ _ => False
  ct : St → Hp → Prop := fun _ _ => False
abbrev TS := Ends → St → Hp → Prop

def EP (X : Cx) (pins : List (Addr × Obj)) (σ : St) (Q : VK) (u : Value) (s' : Shared) : Prop := ∃ v H', Inv X pins σ H' s' ∧ RelV v u ∧ Q v H'
def TP (X : Cx) (pins : List (Addr × Obj)) (σ : St) (Q : Bool → Hp → Prop) (b : Bool) (s' : Shared) : Prop := ∃ H', Inv X pins σ H' s' ∧ Q b H'
def AP (X : Cx) (pins : List (Addr × Obj)) (σ : St) (Q : List V → Hp → Prop) (us : List Value) (s' : Shared) : Prop := ∃ vs H', Inv X pins σ H' s' ∧ Vals vs us ∧ Q vs H'
def SP (X : Cx) (pins : List (Addr × Obj)) (D : Ends) (f : Flow) (s' : Shared) : Prop :=
  match f with
  | .next => ∃ σ' H', Inv X pins σ' H' s' ∧ D.nx σ' H'
  | .brk => ∃ σ' H', Inv X pins σ' H' s' ∧ D.bk σ' H'
  | .cont => ∃ σ' H', Inv X pins σ' H' s' ∧ D.ct σ' H'
  | .ret u => ∃ v σ' H', Inv X pins σ' H' s' ∧ RelV v u ∧ D.rt v H'

def PE (X : Cx) (e : Expr) (t : TE) : Prop :=
  ∀ (pins : List (Addr × Obj)) (s : Shared) (σ : St) (H : Hp) (Q : VK), Inv X pins σ H s → t σ H Q → wpAny (model X.prog X.w) X.A (eval e X.env) (EP X pins σ Q) X.xe s
def PT (X : Cx) (e : Expr) (t : TT) : Prop :=
  ∀ (pins : List (Addr × Obj)) (s : Shared) (σ : St) (H : Hp) (Q : Bool → Hp → Prop), Inv X pins σ H s → t σ H Q → wpAny (model X.prog X.w) X.A (isTrue e X.env (eval e X.env)) (TP X pins σ Q) X.xe s
/-- a test whatever its 'whole' is (and, or) -/
def PW (X : Cx) (e : Expr) (t : TT) : Prop :=
  ∀ (whole : Sem Value) (pins : List (Addr × Obj)) (s : Shared) (σ : St) (H : Hp) (Q : Bool → Hp → Prop), Inv X pins σ H s → t σ H Q → wpAny (model X.prog X.w) X.A (isTrue e X.env whole) (TP X pins σ Q) X.xe s
theorem PW.pt {X : Cx} {e : Expr} {t : TT} (h : PW X e t) : PT X e t := h _
/-- an argument list (no star), from the left -/
def PA (X : Cx) (es : List Expr) (t : TA) : Prop :=
  ∀ (pos : Pos) (pins : List (Addr × Obj)) (s : Shared) (σ : St) (H : Hp) (Q : List V → Hp → Prop), Inv X pins σ H s → t σ H Q → wpAny (model X.prog X.w) X.A (spliced (backTo pos (starEach es X.env))) (AP X pins σ Q) X.xe s
def PS (X : Cx) (st : Stmt) (t : TS) : Prop :=
  ∀ (pins : List (Addr × Obj)) (s : Shared) (σ : St) (H : Hp) (D : Ends), Inv X pins σ H s → t D σ H → wpAny (model X.prog X.w) X.A (exec st X.env) (SP X pins D) X.xe s
def PSs (X : Cx) (st : List Stmt) (t : TS) : Prop :=
  ∀ (pins : List (Addr × Obj)) (s : Shared) (σ : St) (H : Hp) (D : Ends), Inv X pins σ H s → t D σ H → wpAny (model X.prog X.w) X.A (execs st X.env) (SP X pins D) X.xe s
/-- weaken the end -/
theorem thn {α : Type} {t : Sem α} {Q Q' : α → Shared → Prop} {M : Model} {A : Around} {E : Value → Shared → Prop} {s : Shared} (h : wpAny M A t Q E s) (hQ : ∀ a s, Q a s → Q' a s) : wpAny M A t Q' E s := wpAny_mono h hQ fun _ _ x => x
end L2

namespace L2
open PySem PySem.Spec PyProof.Rows
section
variable {X : Cx}

/-! ### names and constants -/
def tVar (i : Nat) : TE := fun σ H Q => ∃ v, σ[i]? = some (some v) ∧ Q v H
def tC (v : V) : TE := fun _ H Q => Q v H
theorem pe_var {i : Nat} {x : Str} {pos : Pos} (hN : X.N[i]? = some x) (hv : Vis X.env.scope x) (hd : (x == ("__debug__" : Str)) = false := by decide) (hcd : (x == ("__classdict__" : Str)) = false := by decide) : PE X (.Name x pos) (tVar i) := by
  intro pins s σ H Q I h
  obtain ⟨v, e, h⟩ := h
  obtain ⟨m, hn, hl⟩ := I.loc
  obtain ⟨u, r, l⟩ := hl i x v hN e hv
  have fin : EP X pins σ Q u s := ⟨v, H, I, r, h⟩
  rcases l with ⟨hk, hm⟩ | ⟨hk, c, hc, hcell⟩
  · exact wpAny_Name (wpAny_loadName_local I.ok.kind hk hn hm fin) hd
  · rcases hk with hk | hk
    · exact wpAny_Name (wpAny_loadName_cell I.ok.kind hk hc hcell fin) hd
    · exact wpAny_Name (wpAny_loadName_free I.ok.kind hk hc hcell fin hcd) hd
theorem pe_int {i j pos} : PE X (.Constant (.int i) j pos) (tC (.int i)) := fun _ _ _ H _ I h => wpAny_Constant_int ⟨.int i, H, I.tok _, ⟨_, rfl⟩, h⟩
theorem pe_bl {b j pos} : PE X (.Constant (.bool b) j pos) (tC (.bl b)) := fun _ _ _ H _ I h => Constant_bool ⟨.bl b, H, I, rfl, h⟩
theorem pe_non {j pos} : PE X (.Constant .none j pos) (tC .non) := fun _ _ _ H _ I h => Constant_none ⟨.non, H, I, rfl, h⟩
theorem pe_str {x j pos} : PE X (.Constant (.str x) j pos) (tC (.str x)) := fun _ _ _ H _ I h => Calls.Constant_str ⟨.str x, H, I.tok _, ⟨_, rfl⟩, h⟩

/-- a global name of the def -/
def Gl (X : Cx) (x : Str) : Prop := X.env.kindOf x = some .globalImplicit
theorem ld_glob {E : Value → Shared → Prop} {pins : List (Addr × Obj)} {s : Shared} {σ : St} {H : Hp} {x : Str} {u : Value} {pos : Pos} {Q : Value → Shared → Prop} (I : Inv X pins σ H s) (hg : Gl X x) (hm : X.mg x = some u) (h : Q u s)
    (hd : (x == ("__debug__" : Str)) = false := by decide) : wpAny (model X.prog X.w) X.A (eval (.Name x pos) X.env) Q E s :=
  Calls.Name_function_global I.ok.kind hg (Calls.loadGlobal_global (by rw [I.ok.glob]; exact I.mod.glob.keeps I.bk) hm h) hd
theorem ld_blt {E : Value → Shared → Prop} {pins : List (Addr × Obj)} {s : Shared} {σ : St} {H : Hp} {x : Str} {u : Value} {pos : Pos} {Q : Value → Shared → Prop} (I : Inv X pins σ H s) (hg : Gl X x) (hm : X.mg x = none) (hv : bootBuiltins x = some u) (h : Q u s)
    (hn : x ≠ "__name__" := by decide) (hd : (x == ("__debug__" : Str)) = false := by decide) : wpAny (model X.prog X.w) X.A (eval (.Name x pos) X.env) Q E s := by
  obtain ⟨mb, h1, h2⟩ := I.mod.blt
  exact Calls.Name_function_global I.ok.kind hg (Calls.loadGlobal_builtin (by rw [I.ok.glob]; exact I.mod.glob.keeps I.bk) hm (by rw [I.ok.blt]; exact h1.keeps I.bk) ((h2 x hn).trans hv) h) hd
/-- a module's constant, a class, a function, as a value -/
theorem pe_glob {x : Str} {v : V} {u : Value} {pos : Pos} (hg : Gl X x) (hm : X.mg x = some u) (r : RelV v u) (hd : (x == ("__debug__" : Str)) = false := by decide) : PE X (.Name x pos) (tC v) :=
  fun _ _ _ H _ I h => ld_glob I hg hm ⟨v, H, I, r, h⟩ hd
theorem pe_bltn {x : Str} {v : V} {u : Value} {pos : Pos} (hg : Gl X x) (hm : X.mg x = none) (hv : bootBuiltins x = some u) (r : RelV v u) (hn : x ≠ "__name__" := by decide) (hd : (x == ("__debug__" : Str)) = false := by decide) : PE X (.Name x pos) (tC v) :=
  fun _ _ _ H _ I h => ld_blt I hg hm hv ⟨v, H, I, r, h⟩ hn hd

/-! ### arithmetic -/
variable {a b : Expr} {ta tb : TE} {pos : Pos}
/-! ### comparisons -/
/-- a comparison as a value, as a test -/
def tB (t : TE) : TT := fun σ H Q => t σ H fun x H1 => ∃ c, x = .bl c ∧ Q c H1
/-- an expression whose value is a bool, as a test -/
theorem pt_val {e : Expr} {t : TE} (h : PE X e t) (he : ∀ whole, isTrue e X.env whole = (do let v ← whole; standAt e.pos; holding [v] (truthy v)) := by intro _; rfl) : PT X e (tB t) := by
  intro pins s σ H Q I hw
  refine isTrue_plain (thn (h pins s σ H _ I hw) fun v s1 ⟨x, H1, I1, r1, q1⟩ => ?_) (he _)
  obtain ⟨d, rfl, q⟩ := q1
  cases r1
  exact wpAny_truthy_bool ⟨H1, I1, q⟩

/-! ### and, or, not -/
variable {tA tB' : TT} {rest : List Expr}
def tAnd (t u : TT) : TT := fun σ H Q => t σ H fun c H1 => if c = true then u σ H1 Q else Q false H1
def tOr (t u : TT) : TT := fun σ H Q => t σ H fun c H1 => if c = true then Q true H1 else u σ H1 Q
def tNot (t : TT) : TT := fun σ H Q => t σ H fun c H1 => Q (!c) H1
theorem pw_and1 (ha : PT X a tA) : PW X (.BoolOp .And [a] pos) tA := by
  intro wh pins s σ H Q I h
  refine isTrue_and (thn (ha pins s σ H Q I h) fun c s1 e => ?_)
  cases c with
  | true => exact isTrue_and_nil e
  | false => exact e
theorem pw_or1 (ha : PT X a tA) : PW X (.BoolOp .Or [a] pos) tA := by
  intro wh pins s σ H Q I h
  refine isTrue_or (thn (ha pins s σ H Q I h) fun c s1 e => ?_)
  cases c with
  | false => exact isTrue_or_nil e
  | true => exact e
theorem pw_and (ha : PT X a tA) (hb : PW X (.BoolOp .And (b :: rest) pos) tB') : PW X (.BoolOp .And (a :: b :: rest) pos) (tAnd tA tB') := by
  intro wh pins s σ H Q I h
  refine isTrue_and (thn (ha pins s σ H _ I h) fun c s1 ⟨H1, I1, q1⟩ => ?_)
  cases c with
  | true => exact hb wh pins s1 σ H1 Q I1 q1
  | false => exact ⟨H1, I1, q1⟩
theorem pw_or (ha : PT X a tA) (hb : PW X (.BoolOp .Or (b :: rest) pos) tB') : PW X (.BoolOp .Or (a :: b :: rest) pos) (tOr tA tB') := by
  intro wh pins s σ H Q I h
  refine isTrue_or (thn (ha pins s σ H _ I h) fun c s1 ⟨H1, I1, q1⟩ => ?_)
  cases c with
  | true => exact ⟨H1, I1, q1⟩
  | false => exact hb wh pins s1 σ H1 Q I1 q1
theorem pt_not (ha : PT X a tA) : PT X (.UnaryOp .Not a pos) (tNot tA) := by
  intro pins s σ H Q I h
  exact isTrue_not (ha pins s σ H (fun c H1 => Q (!c) H1) I h)
/-- .. as values (bools) -/
def tAndV (ta tb : TE) : TE := fun σ H Q => ta σ H fun x H1 => ∃ c, x = .bl c ∧ if c = true then tb σ H1 Q else Q (.bl false) H1
def tNotV (ta : TE) : TE := fun σ H Q => ta σ H fun x H1 => ∃ c, x = .bl c ∧ Q (.bl (!c)) H1
theorem pe_one {op} {t : TE} (h : PE X a t) : PE X (.BoolOp op [a] pos) t := fun pins s σ H Q I hw => BoolOp_one (h pins s σ H Q I hw)
theorem pe_and (ha : PE X a ta) (hb : PE X (.BoolOp .And (b :: rest) pos) tb) : PE X (.BoolOp .And (a :: b :: rest) pos) (tAndV ta tb) := by
  intro pins s σ H Q I h
  refine BoolOp_and (thn (ha pins s σ H _ I h) fun v s1 ⟨x, H1, I1, r1, q1⟩ => ?_)
  obtain ⟨c, rfl, q1⟩ := q1
  cases r1
  refine wpAny_truthy_bool ?_
  cases c with
  | true => exact hb pins s1 σ H1 Q I1 q1
  | false => exact ⟨.bl false, H1, I1, rfl, q1⟩
theorem pe_not (ha : PE X a ta) : PE X (.UnaryOp .Not a pos) (tNotV ta) := by
  intro pins s σ H Q I h
  refine UnaryOp_ (thn (ha pins s σ H _ I h) fun v s1 ⟨x, H1, I1, r1, q1⟩ => ?_)
  obtain ⟨c, rfl, q1⟩ := q1
  cases r1
  exact not_of (wpAny_truthy_bool ⟨.bl (!c), H1, I1, rfl, q1⟩)
end
end L2

namespace L2
open PySem PySem.Spec PyProof.Rows

/-! ### a list, a tuple that is read: tracked, frozen, or an object of the module -/
def SqL (K : PySem.W.Frag) (H : Hp) (a : Addr) (xs : List V) : Prop :=
  Rd H a (.lst xs) ∨
    ∃ (o : Obj) (its : Array Value) (n : Nat), K.lookup a = some o ∧ o.cls = .type "list" ∧ o.dict = none ∧ o.data = .seq its n ∧ its.size ≤ sizeLine ∧ Vals xs its.toList
def SqT (K : PySem.W.Frag) (H : Hp) (a : Addr) (xs : List V) : Prop :=
  Rd H a (.tup xs) ∨
    ∃ (o : Obj) (its : Array Value) (n : Nat), K.lookup a = some o ∧ o.cls = .type "tuple" ∧ o.data = .seq its n ∧ its.size ≤ sizeLine ∧ Vals xs its.toList
def absV : Value → Option V
  | .none => some .non
  | .bool b => some (.bl b)
  | .int i _ => some (.int i)
  | .str x _ => some (.str x)
  | .bytes b _ => some (.byt b)
  | .float b _ => some (.flt b)
  | .ref a => some (.ref a)
  | .type n => some (.ty n)
  | _ => none
theorem RelV.abs {x : V} {u : Value} (r : RelV x u) : absV u = some x := by
  cases x with
  | non => cases r; rfl
  | bl _ => cases r; rfl
  | int _ => obtain ⟨t, rfl⟩ := r; rfl
  | str _ => obtain ⟨t, rfl⟩ := r; rfl
  | byt _ => obtain ⟨t, rfl⟩ := r; rfl
  | flt _ => obtain ⟨t, rfl⟩ := r; rfl
  | ref _ => cases r; rfl
  | ty _ => cases r; rfl
theorem RelV.inj {x y : V} {u : Value} (r : RelV x u) (q : RelV y u) : x = y := Option.some.inj (r.abs.symm.trans q.abs)
theorem Vals.inj : ∀ {xs ys : List V} {us : List Value}, Vals xs us → Vals ys us → xs = ys
  | _, _, _, .nil, .nil => rfl
  | _, _, _, .cons r t, .cons r' t' => by rw [r.inj r', Vals.inj t t']
section
variable {X : Cx} {pins : List (Addr × Obj)} {σ : St} {H : Hp} {s : Shared} {a : Addr} {xs ys : List V}
theorem SqL.of {K : PySem.W.Frag} (h : H a = some (.lst xs)) : SqL K H a xs := .inl (.inl h)
theorem SqT.of {K : PySem.W.Frag} (h : H a = some (.tup xs)) : SqT K H a xs := .inl (.inl h)
theorem Inv.list (I : Inv X pins σ H s) (h : SqL X.K H a xs) : ∃ its : List Value, Vals xs its ∧ PlainL s.heap a its.toArray ∧ xs.length ≤ sizeLine := by
  rcases h with h | ⟨o, its, n, hk, hc, hd, hs, hz, r⟩
  · obtain ⟨z, its, n, r, e⟩ := h.ok I.hok
    exact ⟨its, r, ⟨_, n, e, rfl, rfl, rfl⟩, z⟩
  · refine ⟨its.toList, r, ⟨o, n, I.kIn a o hk, hc, hd, by simpa using hs⟩, ?_⟩
    have e := r.length
    simp only [Array.length_toList] at e
    omega
theorem Inv.tuple (I : Inv X pins σ H s) (h : SqT X.K H a xs) : ∃ its : List Value, Vals xs its ∧ IsTup s.heap a its.toArray ∧ xs.length ≤ sizeLine := by
  rcases h with h | ⟨o, its, n, hk, hc, hs, hz, r⟩
  · obtain ⟨z, its, r, p⟩ := h.ok I.hok
    exact ⟨its, r, p, z⟩
  · refine ⟨its.toList, r, ⟨o, I.kIn a o hk, hc, n, by simpa using hs⟩, ?_⟩
    have e := r.length
    simp only [Array.length_toList] at e
    omega
theorem Inv.list_inj (I : Inv X pins σ H s) (h : SqL X.K H a xs) (h' : SqL X.K H a ys) : xs = ys := by
  obtain ⟨its, r, ⟨o, n, e, _, _, d⟩, _⟩ := I.list h
  obtain ⟨its', r', ⟨o', n', e', _, _, d'⟩, _⟩ := I.list h'
  rw [e] at e'; cases e'
  rw [d] at d'
  injection d' with d1 _
  have : its = its' := by simpa using congrArg Array.toList d1
  subst this
  exact r.inj r'
theorem Inv.tuple_inj (I : Inv X pins σ H s) (h : SqT X.K H a xs) (h' : SqT X.K H a ys) : xs = ys := by
  obtain ⟨its, r, ⟨o, e, _, n, d⟩, _⟩ := I.tuple h
  obtain ⟨its', r', ⟨o', e', _, n', d'⟩, _⟩ := I.tuple h'
  rw [e] at e'; cases e'
  rw [d] at d'
  injection d' with d1 _
  have : its = its' := by simpa using congrArg Array.toList d1
  subst this
  exact r.inj r'
end

/-! ### another wish about exceptions -/
abbrev Cx.wish (X : Cx) (E : Value → Shared → Prop) : Cx := { X with xe := E }
/-- no exception leaves -/
abbrev Cx.nox (X : Cx) : Cx := X.wish fun _ _ => False
theorem Cx.Ok.wish {X : Cx} (ok : X.Ok) (E : Value → Shared → Prop) : (X.wish E).Ok :=
  ⟨ok.mod, ok.kind, ok.glob, ok.blt, ok.above, ok.inj, ok.has, ok.cab, ok.hd, ok.frames, ok.stk, ok.exf, ok.bs, ok.bsz, ok.noex, ok.exfs, ok.funs, ok.frf⟩
theorem Cx.Ok.unwish {X : Cx} {E : Value → Shared → Prop} (ok : (X.wish E).Ok) : X.Ok :=
  ⟨ok.mod, ok.kind, ok.glob, ok.blt, ok.above, ok.inj, ok.has, ok.cab, ok.hd, ok.frames, ok.stk, ok.exf, ok.bs, ok.bsz, ok.noex, ok.exfs, ok.funs, ok.frf⟩
section
variable {X : Cx} {pins : List (Addr × Obj)} {σ : St} {H : Hp} {s : Shared} {E : Value → Shared → Prop}
theorem Inv.wish (I : Inv X pins σ H s) (E : Value → Shared → Prop) : Inv (X.wish E) pins σ H s := ⟨I.ok.wish E, I.os, I.bare, I.base, I.loc, I.cell, I.free, I.freeC, I.pin, I.hok, I.len⟩
theorem Inv.unwish (I : Inv (X.wish E) pins σ H s) : Inv X pins σ H s := ⟨I.ok.unwish, I.os, I.bare, I.base, I.loc, I.cell, I.free, I.freeC, I.pin, I.hok, I.len⟩
theorem SP.unwish {D : Ends} {f : Flow} {s' : Shared} (h : SP (X.wish E) pins D f s') : SP X pins D f s' := by
  cases f with
  | next => obtain ⟨σ', H', I, q⟩ := h; exact ⟨σ', H', I.unwish, q⟩
  | brk => obtain ⟨σ', H', I, q⟩ := h; exact ⟨σ', H', I.unwish, q⟩
  | cont => obtain ⟨σ', H', I, q⟩ := h; exact ⟨σ', H', I.unwish, q⟩
  | ret u => obtain ⟨v, σ', H', I, r, q⟩ := h; exact ⟨v, σ', H', I.unwish, r, q⟩
theorem PSs.nox {st : List Stmt} {t : TS} (h : PSs X.nox st t) : PSs X st t := fun pins s σ H D I hw =>
  wpAny_mono (h pins s σ H D (I.wish _) hw) (fun _ _ q => q.unwish) fun _ _ z => False.elim z
end

/-! ### blocks and small statements -/
section
variable {X : Cx} {st : Stmt} {rest : List Stmt} {t u : TS} {e : Expr} {te : TE} {pos : Pos}
def tNext : TS := fun D σ H => D.nx σ H
def tSeq (t u : TS) : TS := fun D σ H => t { D with nx := u D } σ H
theorem pss_nil : PSs X [] tNext := fun _ _ σ H _ I h => wpAny_execs_nil ⟨σ, H, I, h⟩
theorem pss_cons (h1 : PS X st t) (h2 : PSs X rest u) : PSs X (st :: rest) (tSeq t u) := by
  intro pins s σ H D I h
  refine wpAny_execs_cons (thn (h1 pins s σ H { D with nx := u D } I h) fun f s1 q => ?_)
  cases f with
  | next =>
    obtain ⟨σ', H', I', q⟩ := q
    exact h2 pins s1 σ' H' D I' q
  | ret v => exact q
  | brk => exact q
  | cont => exact q
theorem pss_one (h1 : PS X st t) : PSs X [st] t := by
  intro pins s σ H D I h
  refine wpAny_execs_cons (thn (h1 pins s σ H D I h) fun f s1 q => ?_)
  cases f with
  | next => exact wpAny_execs_nil q
  | ret v => exact q
  | brk => exact q
  | cont => exact q
/-- in a def's body nothing is shown -/
theorem Inv.quiet {pins : List (Addr × Obj)} {σ : St} {H : Hp} {s : Shared} (I : Inv X pins σ H s) : interactive X.env = false := by simp [interactive, I.ok.kind]
/-- an expression whose value is dropped -/
def tDrop (te : TE) : TS := fun D σ H => te σ H fun _ H1 => D.nx σ H1
theorem ps_expr (he : PE X e te) (hs : swapsWith e none pos.line X.env = pure false := by rfl) : PS X (.Expr e pos) (tDrop te) := by
  intro pins s σ H D I h
  exact wpAny_Expr_any (thn (he pins s σ H _ I h) fun v s1 ⟨x, H1, I1, r1, q1⟩ => ⟨σ, H1, I1, q1⟩) I.quiet hs
def tRet (te : TE) : TS := fun D σ H => te σ H D.rt
theorem ps_ret (he : PE X e te) : PS X (.Return (some e) pos) (tRet te) := by
  intro pins s σ H D I h
  exact wpAny_Return_some (thn (he pins s σ H _ I h) fun v s1 ⟨x, H1, I1, r1, q1⟩ => ⟨x, σ, H1, I1, r1, q1⟩)
def tIfS (c : TT) (t u : TS) : TS := fun D σ H => c σ H fun b H1 => if b = true then t D σ H1 else u D σ H1
theorem ps_if {c : Expr} {a b : List Stmt} {tc : TT} (hc : PT X c tc) (ha : PSs X a t) (hb : PSs X b u) : PS X (.If c a b pos) (tIfS tc t u) := by
  intro pins s σ H D I h
  refine wpAny_If (thn (hc pins s σ H _ I h) fun d s1 ⟨H1, I1, q1⟩ => ?_)
  cases d with
  | true => exact ha pins s1 σ H1 D I1 q1
  | false => exact hb pins s1 σ H1 D I1 q1
/-- code that the proof never comes to -/
def tNever : TS := fun _ _ _ => False
theorem ps_never : PS X st tNever := fun _ _ _ _ _ _ h => h.elim
end

/-! ### targets -/
abbrev TG := V → St → Hp → (St → Hp → Prop) → Prop
abbrev TGs := List V → St → Hp → (St → Hp → Prop) → Prop
def PG (X : Cx) (target : Expr) (t : TG) : Prop :=
  ∀ (pins : List (Addr × Obj)) (s : Shared) (σ : St) (H : Hp) (v : V) (u : Value) (Q : St → Hp → Prop), Inv X pins σ H s → RelV v u → t v σ H Q →
    wpAny (model X.prog X.w) X.A (assign target X.env u) (fun _ s' => ∃ σ' H', Inv X pins σ' H' s' ∧ Q σ' H') X.xe s
/-- several targets, one after another -/
def PGs (X : Cx) (ts : List Expr) (t : TGs) : Prop :=
  ∀ (pins : List (Addr × Obj)) (s : Shared) (σ : St) (H : Hp) (vs : List V) (us : List Value) (Q : St → Hp → Prop), Inv X pins σ H s → Vals vs us → t vs σ H Q →
    wpAny (model X.prog X.w) X.A (assignInOrder ((assignEach ts X.env).map (·.2)) us) (fun _ s' => ∃ σ' H', Inv X pins σ' H' s' ∧ Q σ' H') X.xe s
/-- o[i] = v, by values -/
abbrev TSet := V → V → V → Hp → (Hp → Prop) → Prop
def PSet (X : Cx) (t : TSet) : Prop :=
  ∀ (pins : List (Addr × Obj)) (s : Shared) (σ : St) (H : Hp) (o i v : V) (ov iv u : Value) (Q : Hp → Prop), Inv X pins σ H s → RelV o ov → RelV i iv → RelV v u → t o i v H Q →
    wpAny (model X.prog X.w) X.A (setItem ov iv u) (fun _ s' => ∃ H', Inv X pins σ H' s' ∧ Q H') X.xe s
/-- a op= b, by values -/
abbrev TIp := V → V → Hp → VK → Prop
def PIp (X : Cx) (op : Operator) (t : TIp) : Prop :=
  ∀ (pins : List (Addr × Obj)) (s : Shared) (σ : St) (H : Hp) (x y : V) (v u : Value) (Q : VK), Inv X pins σ H s → RelV x v → RelV y u → t x y H Q →
    wpAny (model X.prog X.w) X.A (inplaceOp op v u) (EP X pins σ Q) X.xe s
section
variable {X : Cx} {pos : Pos}
def gName (i : Nat) : TG := fun v σ H Q => Q (σ.set i (some v)) H
theorem pg_name {i : Nat} {x : Str} (hN : X.N.Nodup) (hi : X.N[i]? = some x) (hx : Loc X.env.scope x) (hf : X.fn x = true ∨ X.env.scope.names.lookup x = some .local := by first | exact .inl rfl | exact .inr rfl | assumption) : PG X (.Name x pos) (gName i) := by
  intro pins s σ H v u Q I r h
  exact wpAny_assign_Name (store_ok I hN hi hx r (fun s' I' => ⟨_, H, I', h⟩) hf)
def gNil : TGs := fun vs σ H Q => vs = [] ∧ Q σ H
def gCons (t : TG) (u : TGs) : TGs := fun vs σ H Q => ∃ v r, vs = v :: r ∧ t v σ H fun σ' H' => u r σ' H' Q
theorem pgs_nil : PGs X [] gNil := by
  intro pins s σ H vs us Q I r h
  obtain ⟨e, h⟩ := h
  subst e
  cases r
  exact assignInOrder_nil ⟨σ, H, I, h⟩
theorem pgs_cons {e : Expr} {es : List Expr} {t : TG} {u : TGs} (h1 : PG X e t) (h2 : PGs X es u)
    (hs : (assignEach (e :: es) X.env).map (·.2) = assign e X.env :: (assignEach es X.env).map (·.2) := by rfl) : PGs X (e :: es) (gCons t u) := by
  intro pins s σ H vs us Q I r h
  obtain ⟨v, vr, e1, h⟩ := h
  subst e1
  cases r with
  | cons r rr =>
    rw [hs]
    refine assignInOrder_cons (thn (h1 pins s σ H _ _ _ I r h) fun _ s1 ⟨σ1, H1, I1, q1⟩ => ?_)
    exact h2 pins s1 σ1 H1 _ _ Q I1 rr q1
/-- (a, b, ..) = a tuple of that length -/
def gTup (K : PySem.W.Frag) (n : Nat) (t : TGs) : TG := fun v σ H Q => ∃ a xs, v = .ref a ∧ SqT K H a xs ∧ xs.length = n ∧ t xs σ H Q
theorem pg_tup {es : List Expr} {k : Nat} {t : TGs} {n : Nat} (hc : X.calm = true) (h : PGs X es t)
    (hn : (assignEach es X.env).length = n := by rfl) (hst : (assignEach es X.env).findIdx? (·.1) = none := by rfl) : PG X (.Tuple es k pos) (gTup X.K n t) := by
  intro pins s σ H v u Q I r hw
  obtain ⟨a, xs, e1, hq, hl, hw⟩ := hw
  subst e1
  cases r
  obtain ⟨its, rv, ht, hz⟩ := I.tuple hq
  refine assign_Tuple_tuple (I.ok.hd hc) ht (by simp [hn, ← hl, rv.length]) hst fun h' hx => ?_
  have I1 : Inv X pins σ H { s with heap := h' } := I.kept (t' := s.toks) fun b o e => hx b o (Nat.ne_of_lt (Heap.lt_size e)) e
  exact h pins _ σ H xs _ Q I1 (by simpa using rv) hw
/-- o[i] = .. -/
def gSub (to ti : TE) (t : TSet) : TG := fun v σ H Q => to σ H fun o H1 => ti σ H1 fun i H2 => t o i v H2 fun H3 => Q σ H3
theorem pg_sub {o i : Expr} {to ti : TE} {t : TSet} (ho : PE X o to) (hi : PE X i ti) (hs : PSet X t)
    (ha : ∀ v, assign (.Subscript o i pos) X.env v = (do
      let ov ← holding [v] (eval o X.env)
      let iv ← holding [v, ov] (eval i X.env)
      standAt pos
      holding [v, ov, iv] (setItem ov iv v)
      release [v, ov, iv] []) := by intro _; rfl) : PG X (.Subscript o i pos) (gSub to ti t) := by
  intro pins s σ H v u Q I r h
  rw [ha]
  refine wpAny_bind (wpAny_holding (thn (ho pins s σ H _ I h) fun ov s1 ⟨x, H1, I1, r1, q1⟩ => ?_))
  refine wpAny_bind (wpAny_holding (thn (hi pins s1 σ H1 _ I1 q1) fun iv s2 ⟨y, H2, I2, r2, q2⟩ => ?_))
  refine wpAny_bind (wpAny_standAt (wpAny_bind (wpAny_holding (thn (hs pins s2 σ H2 x y v ov iv u _ I2 r1 r2 r q2) fun _ s3 ⟨H3, I3, q3⟩ => ?_))))
  exact wpAny_release ⟨σ, H3, I3, q3⟩
/-- target = value -/
def tAsg (te : TE) (g : TG) : TS := fun D σ H => te σ H fun x H1 => g x σ H1 D.nx
theorem ps_asg {tg e : Expr} {te : TE} {g : TG} (he : PE X e te) (hg : PG X tg g) (hs : swapsWithSole [tg] e pos.line X.env = pure false := by rfl) (hw : swappedStores [tg] e X.env = pure none := by rfl)
    (h1 : (assignEach [tg] X.env).map (·.2) = [assign tg X.env] := by rfl) : PS X (.Assign [tg] e pos) (tAsg te g) := by
  intro pins s σ H D I h
  refine wpAny_Assign_stores (thn (he pins s σ H _ I h) fun v s1 ⟨x, H1, I1, r1, q1⟩ => ?_) hs hw
  rw [h1]
  exact thn (hg pins s1 σ H1 x v _ I1 r1 q1) fun _ s2 q => q
/-- name = value -/
theorem ps_set {i : Nat} {x : Str} {e : Expr} {te : TE} {pos' : Pos} (hN : X.N.Nodup) (hi : X.N[i]? = some x) (hx : Loc X.env.scope x) (he : PE X e te) (hs : swapsWith e (some (.Name x pos')) pos.line X.env = pure false := by rfl) (hf : X.fn x = true ∨ X.env.scope.names.lookup x = some .local := by first | exact .inl rfl | exact .inr rfl | assumption) :
    PS X (.Assign [.Name x pos'] e pos) (tAsg te (gName i)) := by
  intro pins s σ H D I h
  refine wpAny_Assign_Name (thn (he pins s σ H _ I h) fun v s1 ⟨y, H1, I1, r1, q1⟩ => ?_) hs
  exact store_ok I1 hN hi hx r1 (fun s2 I2 => ⟨_, H1, I2, q1⟩) hf
/-- name op= e -/
def tAug (i : Nat) (te : TE) (ti : TIp) : TS := fun D σ H => ∃ x, σ[i]? = some (some x) ∧ te σ H fun y H1 => ti x y H1 fun z H2 => D.nx (σ.set i (some z)) H2
theorem ps_aug {i : Nat} {x : Str} {e : Expr} {te : TE} {op : Operator} {ti : TIp} {pos' : Pos} (hN : X.N.Nodup) (hi : X.N[i]? = some x) (hx : Loc X.env.scope x) (he : PE X e te) (ho : PIp X op ti) (hf : X.fn x = true ∨ X.env.scope.names.lookup x = some .local := by first | exact .inl rfl | exact .inr rfl | assumption) :
    PS X (.AugAssign (.Name x pos') op e pos) (tAug i te ti) := by
  intro pins s σ H D I h
  obtain ⟨v, e1, h⟩ := h
  obtain ⟨m, hn, hl⟩ := I.loc
  have vis : Vis X.env.scope x := by rcases hx with k | k; exact .inl k; exact .inr (.inl k)
  obtain ⟨u, r, l⟩ := hl i x v hi e1 vis
  refine wpAny_AugAssign_Name ?_
  have go : wpAny (model X.prog X.w) X.A (eval e X.env) (fun w s₂ => wpAny (model X.prog X.w) X.A (inplaceOp op u w) (fun r s₃ => wpAny (model X.prog X.w) X.A (storeName X.env x r) (fun _ => SP X pins D .next) X.xe s₃) X.xe s₂) X.xe s := by
    refine thn (he pins s σ H _ I h) fun w s1 ⟨y, H1, I1, r1, q1⟩ => ?_
    refine thn (ho pins s1 σ H1 v y u w _ I1 r r1 q1) fun z s2 ⟨zv, H2, I2, r2, q2⟩ => ?_
    exact store_ok I2 hN hi hx r2 (fun s3 I3 => ⟨_, H2, I3, q2⟩) hf
  rcases l with ⟨hk, hm⟩ | ⟨hk, c, hc, hcell⟩
  · exact wpAny_loadName_local I.ok.kind hk hn hm go
  · rcases hk with hk | hk
    · exact wpAny_loadName_cell I.ok.kind hk hc hcell go
    · rcases hx with k | k
      · have : X.env.scope.names.lookup x = some .free := hk
        rw [k] at this; cases this
      · have : X.env.scope.names.lookup x = some .free := hk
        rw [k] at this; cases this
/-- o[i] op= e -/
def tAugS (to ti te : TE) (tget : V → V → Hp → VK → Prop) (tip : TIp) (tset : TSet) : TS := fun D σ H => to σ H fun o H1 => ti σ H1 fun i H2 => tget o i H2 fun x H3 => te σ H3 fun y H4 => tip x y H4 fun z H5 => tset o i z H5 fun H6 => D.nx σ H6
/-- o[i], by values -/
def PGet (X : Cx) (t : V → V → Hp → VK → Prop) : Prop :=
  ∀ (pins : List (Addr × Obj)) (s : Shared) (σ : St) (H : Hp) (o i : V) (ov iv : Value) (Q : VK), Inv X pins σ H s → RelV o ov → RelV i iv → t o i H Q →
    wpAny (model X.prog X.w) X.A (getItem ov iv) (EP X pins σ Q) X.xe s
theorem ps_augS {o i e : Expr} {to ti te : TE} {tget : V → V → Hp → VK → Prop} {tip : TIp} {tset : TSet} {op : Operator} {tpos : Pos} (ho : PE X o to) (hi : PE X i ti) (hg : PGet X tget) (he : PE X e te) (hp : PIp X op tip) (hs : PSet X tset)
    (ha : ∀ ov iv new, augStore i ov iv new = (do holding [new, ov, iv] (setItem ov iv new); release [new, ov, iv] []; pure .next) := by intros; rfl) : PS X (.AugAssign (.Subscript o i tpos) op e pos) (tAugS to ti te tget tip tset) := by
  intro pins s σ H D I h
  refine wpAny_AugAssign_SubscriptAny (thn (ho pins s σ H _ I h) fun ov s1 ⟨x1, H1, I1, r1, q1⟩ => ?_) ha
  refine thn (hi pins s1 σ H1 _ I1 q1) fun iv s2 ⟨x2, H2, I2, r2, q2⟩ => ?_
  refine thn (hg pins s2 σ H2 x1 x2 ov iv _ I2 r1 r2 q2) fun old s3 ⟨x3, H3, I3, r3, q3⟩ => ?_
  refine thn (he pins s3 σ H3 _ I3 q3) fun v s4 ⟨x4, H4, I4, r4, q4⟩ => ?_
  refine thn (hp pins s4 σ H4 x3 x4 old v _ I4 r3 r4 q4) fun new s5 ⟨x5, H5, I5, r5, q5⟩ => ?_
  exact thn (hs pins s5 σ H5 x1 x2 x5 ov iv new _ I5 r1 r2 r5 q5) fun _ s6 ⟨H6, I6, q6⟩ => ⟨σ, H6, I6, q6⟩
/-- ints -/
def ipI (f : Int → Int → Int) : TIp := fun x y H Q => ∃ i j, x = .int i ∧ y = .int j ∧ Q (.int (f i j)) H
theorem ip_add : PIp X .Add (ipI fun i j => i + j) := by
  intro pins s σ H x y v u Q I r1 r2 h
  obtain ⟨i, j, e1, e2, q⟩ := h
  subst e1; subst e2
  obtain ⟨t, rfl⟩ := r1
  obtain ⟨t', rfl⟩ := r2
  exact iadd_int ⟨.int _, H, I.tok _, ⟨_, rfl⟩, q⟩
theorem ip_sub : PIp X .Sub (ipI fun i j => i - j) := by
  intro pins s σ H x y v u Q I r1 r2 h
  obtain ⟨i, j, e1, e2, q⟩ := h
  subst e1; subst e2
  obtain ⟨t, rfl⟩ := r1
  obtain ⟨t', rfl⟩ := r2
  exact isub_int ⟨.int _, H, I.tok _, ⟨_, rfl⟩, q⟩
end

/-! ### while -/
section
variable {X : Cx} {pos : Pos}
end

/-! ### what a loop or a comprehension walks -/
/-- at turn i: it yields x (the heap may grow), or it stops -/
structure It where
  go : Nat → Hp → Prop
  yld : Nat → Hp → V → Hp → Prop
  stop : Nat → Hp → Prop
/-- the iterator's own objects may turn: they are not the frame's, not pinned, younger than the entry (or a comprehension's own) -/
def FpOk (X : Cx) (pins : List (Addr × Obj)) (H : Hp) (b : Addr) : Prop :=
  H b = none ∧ b ≠ X.env.locals ∧ b ∉ X.fs ∧ (b ∈ X.ex ∨ X.s₀.heap.objs.size ≤ b) ∧ (∀ x c, X.env.cells.lookup x = some c → c ≠ b) ∧ ∀ p ∈ X.pn ++ pins, p.1 ≠ b
theorem Inv.fpOk {X : Cx} {pins : List (Addr × Obj)} {σ : St} {H H' : Hp} {s : Shared} {b : Addr} (I : Inv X pins σ H s) (hb : s.heap.objs.size ≤ b) (hn : H' b = none) : FpOk X pins H' b := by
  refine ⟨hn, Nat.ne_of_gt (Nat.lt_of_lt_of_le I.lt hb), I.nofs hb, .inr (Nat.le_trans I.sz hb), fun x c e z => ?_, fun p hp z => ?_⟩
  · obtain ⟨v, q⟩ := I.cell x c e
    exact absurd (Nat.lt_of_lt_of_le q.lt (by rw [z]; exact hb)) (Nat.lt_irrefl _)
  · exact absurd (Nat.lt_of_lt_of_le (Heap.lt_size (I.pin p hp).1) (by rw [z]; exact hb)) (Nat.lt_irrefl _)
structure Turn (P : Program) (w : World) (K : PySem.W.Frag) (tg : Expr) (J : It) (fp : List Addr) (it : Addr) (tn : Nat → Heap → Prop) : Prop where
  mem : it ∈ fp
  obj : ∀ i h, tn i h → ∀ b ∈ fp, ∃ o, h.get? b = some o ∧ ∀ v, o.data ≠ .cell v
  keep : ∀ i h h', tn i h → (∀ b ∈ fp, ∀ o, h.get? b = some o → h'.get? b = some o) → tn i h'
  item : ∀ (X : Cx), X.prog = P → X.w = w → X.K = K → X.calm = true → ∀ (i : Nat) (pins : List (Addr × Obj)) (s : Shared) (σ : St) (H : Hp) (E : Value → Shared → Prop), Inv X pins σ H s → (∀ b ∈ fp, FpOk X pins H b) → tn i s.heap → J.go i H →
    wpAny (model P w) X.A (pyNext (.ref it)) (fun r s1 => ∃ u, r = some u ∧
      wpAny (model P w) X.A (letOwnedTupleGo tg (.ref it) u) (fun _ s2 => ∃ x H', Inv X pins σ H' s2 ∧ RelV x u ∧ J.yld i H x H' ∧ tn (i + 1) s2.heap ∧ ∀ b ∈ fp, H' b = none) E s1) E s
  done : ∀ (X : Cx), X.prog = P → X.w = w → X.K = K → X.calm = true → ∀ (i : Nat) (pins : List (Addr × Obj)) (s : Shared) (σ : St) (H : Hp) (E : Value → Shared → Prop), Inv X pins σ H s → (∀ b ∈ fp, FpOk X pins H b) → tn i s.heap → J.stop i H →
    wpAny (model P w) X.A (pyNext (.ref it)) (fun r s1 => r = none ∧ Inv X pins σ H s1) E s
  self : ∀ (A : Around) (i : Nat) (s : Shared) (Q : Value → Shared → Prop) (E : Value → Shared → Prop), tn i s.heap → Q (.ref it) s → wpAny (model P w) A (pyIter (.ref it)) Q E s
abbrev TI := St → Hp → (It → Hp → Prop) → Prop
/-- an iterator has come -/
def PIE (X : Cx) (pins : List (Addr × Obj)) (σ : St) (tg : Expr) (R : It → Hp → Prop) (itv : Value) (s2 : Shared) : Prop :=
  ∃ (it : Addr) (fp : List Addr) (tn : Nat → Heap → Prop) (J : It) (H' : Hp), itv = .ref it ∧ Inv X pins σ H' s2 ∧ Turn X.prog X.w X.K tg J fp it tn ∧ tn 0 s2.heap ∧ (∀ b ∈ fp, FpOk X pins H' b) ∧ R J H'
def PI (X : Cx) (tg iter : Expr) (wi : TI) : Prop :=
  ∀ (pins : List (Addr × Obj)) (s : Shared) (σ : St) (H : Hp) (R : It → Hp → Prop), Inv X pins σ H s → wi σ H R →
    wpAny (model X.prog X.w) X.A (eval iter X.env) (fun v s1 => wpAny (model X.prog X.w) X.A (pyIter v) (PIE X pins σ tg R) X.xe s1) X.xe s

/-- the step ahead of the store is nothing for an iterator that keeps no tuple -/
theorem go_of {M : Model} {A : Around} {E : Value → Shared → Prop} {s : Shared} {tg : Expr} {it : Addr} {u : Value} {o : Obj} {n : String} {vs : Array Value} {Q : Unit → Shared → Prop} (ho : s.heap.get? it = some o) (hc : o.cls = .type n) (hd : o.data = .fields vs)
    (hn : ["enumerate", "zip", "dict_itemiterator", "dict_reverseitemiterator", "odict_iterator", "itertools.zip_longest", "itertools.pairwise"].contains n = false) (hQ : Q () s) : wpAny M A (letOwnedTupleGo tg (.ref it) u) Q E s := by
  unfold letOwnedTupleGo
  cases tg <;> first
    | exact wpAny_pure hQ
    | (cases u <;> first
        | exact wpAny_pure hQ
        | (refine wpAny_bind (wpAny_load ho ?_)
           rw [hc, hd]
           show wpAny M A (if (["enumerate", "zip", "dict_itemiterator", "dict_reverseitemiterator", "odict_iterator", "itertools.zip_longest", "itertools.pairwise"].contains n && vs[0]? == some (rawInt _)) = true then _ else _) Q E s
           rw [if_neg (by intro h; rw [hn, Bool.false_and] at h; cases h)]
           exact wpAny_pure hQ))

/-- the list at a, as it stands at each turn (a loop may append to it) -/
def Itl (K : PySem.W.Frag) (a : Addr) : It :=
  ⟨fun i H => ∃ xs x, SqL K H a xs ∧ xs[i]? = some x, fun i H x H' => H' = H ∧ ∀ xs, SqL K H a xs → xs[i]? = some x, fun i H => ∃ xs, SqL K H a xs ∧ xs.length ≤ i⟩
/-- lo, lo + 1, .. (n of them) -/
def Itr (lo : Int) (n : Nat) : It := ⟨fun i _ => i < n, fun i H x H' => H' = H ∧ x = .int (lo + i), fun i _ => n ≤ i⟩
theorem turn_list {P : Program} {w : World} {K : PySem.W.Frag} {tg : Expr} (a it : Addr) : Turn P w K tg (Itl K a) [it] it (fun i h => h.IsListIter it a i) where
  mem := by simp
  obj := fun i h st b hb => by
    have e : b = it := by simpa using hb
    subst e
    obtain ⟨o, e, c, d⟩ := st
    exact ⟨o, e, fun v z => by rw [d] at z; cases z⟩
  keep := fun i h h' st k => st.at fun o e => k it (by simp) o e
  item := by
    intro X hP hw hK hc i pins s σ H E I hf st hg
    subst hP hw hK
    obtain ⟨xs, x, hq, hx⟩ := hg
    obtain ⟨its, rv, p, hz⟩ := I.list hq
    obtain ⟨u, hu, ru⟩ := rv.get hx
    obtain ⟨f0, f1, f2, f3, f4, f5⟩ := hf it (by simp)
    refine wpAny_pyNext_list_item st p.isList (x := u) (by simpa using hu) fun h' st' sb => ?_
    have I1 : Inv X pins σ H { s with heap := h' } := I.turned (t' := s.toks) (fun b o hb e => (sb.2 b hb).trans e) f0 f1 f3 f4 f5
    obtain ⟨o, e, c, d⟩ := id st'
    exact ⟨u, rfl, go_of (s := { s with heap := h' }) e c d (by decide) ⟨x, H, I1, ru, ⟨rfl, fun ys hy => by rw [I.list_inj hy hq]; exact hx⟩, st', fun b hb => (hf b hb).1⟩⟩
  done := by
    intro X hP hw hK hc i pins s σ H E I hf st hg
    subst hP hw hK
    obtain ⟨xs, hq, hx⟩ := hg
    obtain ⟨its, rv, p, hz⟩ := I.list hq
    obtain ⟨f0, f1, f2, f3, f4, f5⟩ := hf it (by simp)
    have hl := rv.length
    exact wpAny_pyNext_list_end (I.ok.hd hc) st p.isList (by simp; omega) fun h' eb => ⟨rfl, I.turned (t' := s.toks) (fun b o hb e => eb b o hb e) f0 f1 f3 f4 f5⟩
  self := fun _ _ _ _ _ st h => wpAny_pyIter_listiter st h
theorem turn_range {P : Program} {w : World} {K : PySem.W.Frag} {tg : Expr} (it : Addr) (lo : Int) (n : Nat) : Turn P w K tg (Itr lo n) [it] it (fun i h => IsRangeIter h it (lo + (i : Nat) * 1) ((n : Int) - (i : Nat)) 1) where
  mem := by simp
  obj := fun i h st b hb => by
    have e : b = it := by simpa using hb
    subst e
    exact ⟨_, st, fun v z => by
      have z' : Data.fields _ = Data.cell v := z
      cases z'⟩
  keep := fun i h h' st k => k it (by simp) _ st
  item := by
    intro X hP hw hK hc i pins s σ H E I hf st hg
    subst hP hw hK
    obtain ⟨f0, f1, f2, f3, f4, f5⟩ := hf it (by simp)
    have W := Walks.range (prog := X.prog) (w := X.w) (I.ok.hd hc) it lo 1 n
    refine W.item i s _ _ hg st fun v h' tk hv st' kk => ?_
    obtain ⟨t, rfl⟩ := hv
    have I1 : Inv X pins σ H { s with heap := h', toks := tk } := I.turned (fun b o hb e => kk b o (by simpa using hb) e) f0 f1 f3 f4 f5
    refine ⟨_, rfl, go_of (s := { s with heap := h', toks := tk }) (n := "range_iterator") st' rfl rfl (by decide) ⟨.int (lo + i), H, I1, ⟨t, ?_⟩, ⟨rfl, rfl⟩, st', fun b hb => (hf b hb).1⟩⟩
    rw [Int.mul_one]
  done := by
    intro X hP hw hK hc i pins s σ H E I hf st hg
    subst hP hw hK
    obtain ⟨f0, f1, f2, f3, f4, f5⟩ := hf it (by simp)
    exact wpAny_pyNext_range_end (I.ok.hd hc) st (by have : n ≤ i := hg; omega) fun h' eb => ⟨rfl, I.turned (t' := s.toks) (fun b o hb e => eb b o hb e) f0 f1 f3 f4 f5⟩
  self := fun _ _ _ _ _ st h => wpAny_pyIter_rangeiter st h
end L2

namespace L2
open PySem PySem.Spec PyProof.Rows
section
variable {X : Cx} {tg : Expr}
def iList (K : PySem.W.Frag) (tl : TE) : TI := fun σ H R => tl σ H fun x H1 => ∃ a, x = .ref a ∧ (∃ xs, SqL K H1 a xs) ∧ R (Itl K a) H1
theorem pi_list {l : Expr} {tl : TE} (hl : PE X l tl) : PI X tg l (iList X.K tl) := by
  intro pins s σ H R I h
  refine thn (hl pins s σ H _ I h) fun v s1 ⟨x, H1, I1, r1, q1⟩ => ?_
  obtain ⟨a, e, ⟨xs, hq⟩, q⟩ := q1
  subst e
  cases r1
  obtain ⟨its, rv, p, hz⟩ := I1.list hq
  refine wpAny_pyIter_list p.isList ?_
  refine ⟨s1.heap.objs.size, [s1.heap.objs.size], _, _, H1, rfl, I1.kept (t' := s1.toks) fun b o e => Heap.get?_push_of_some _ e, turn_list a _, ⟨_, Heap.get?_push_size _ rfl, rfl, rfl⟩, fun b hb => ?_, q⟩
  have e : b = s1.heap.objs.size := by simpa using hb
  subst e
  exact I1.fpOk (Nat.le_refl _) (I1.hok.fresh (Nat.le_refl _))
/-- a range object just made, walked -/
theorem range_it {pins : List (Addr × Obj)} {σ : St} {H : Hp} {s : Shared} {R : It → Hp → Prop} {E : Value → Shared → Prop} {lo hi : Int} {t u v : Tok} {tk : Nat} (I : Inv X pins σ H s) (h1 : -(2 ^ 62) ≤ lo) (h2 : lo < 2 ^ 62) (h3 : -(2 ^ 62) ≤ hi) (h4 : hi < 2 ^ 62)
    (q : R (Itr lo (hi - lo).toNat) H) : wpAny (model X.prog X.w) X.A (pyIter (.ref s.heap.objs.size)) (PIE X pins σ tg R) E { s with heap := s.heap.push { cls := .type "range", data := .fields #[.int lo t, .int hi u, .int 1 v] }, toks := tk } := by
  refine wpAny_pyIter_range (IsRange.new ..) (small_one h1 h2 h3 h4) ?_
  have I1 : Inv X pins σ H { s with heap := s.heap.push { cls := .type "range", data := .fields #[.int lo t, .int hi u, .int 1 v] }, toks := tk } := I.kept fun b o e => Heap.get?_push_of_some _ e
  refine ⟨(s.heap.push { cls := .type "range", data := .fields #[.int lo t, .int hi u, .int 1 v] }).objs.size, [(s.heap.push { cls := .type "range", data := .fields #[.int lo t, .int hi u, .int 1 v] }).objs.size], _, _, H, rfl,
    I1.kept (t' := tk) fun b o e => Heap.get?_push_of_some _ e, turn_range _ lo (hi - lo).toNat, ?_, fun b hb => ?_, q⟩
  · have e1 : lo + ((0 : Nat) : Int) * 1 = lo := by simp
    have e2 : (((hi - lo).toNat : Nat) : Int) - ((0 : Nat) : Int) = Builtin.Range.rangeSize lo hi 1 := by rw [rangeSize_one]; split <;> omega
    show IsRangeIter _ _ (lo + ((0 : Nat) : Int) * 1) ((((hi - lo).toNat : Nat) : Int) - ((0 : Nat) : Int)) 1
    rw [e1, e2]
    exact Heap.get?_push_size _ rfl
  · have e : b = (s.heap.push { cls := .type "range", data := .fields #[.int lo t, .int hi u, .int 1 v] }).objs.size := by simpa using hb
    subst e
    exact I1.fpOk (Nat.le_refl _) (I1.hok.fresh (Nat.le_refl _))
def iRng1 (ta : TA) : TI := fun σ H R => ta σ H fun vs H1 => ∃ j : Int, vs = [.int j] ∧ -(2 ^ 62) ≤ j ∧ j < 2 ^ 62 ∧ R (Itr 0 j.toNat) H1
def iRng2 (ta : TA) : TI := fun σ H R => ta σ H fun vs H1 => ∃ i j : Int, vs = [.int i, .int j] ∧ (-(2 ^ 62) ≤ i ∧ i < 2 ^ 62 ∧ -(2 ^ 62) ≤ j ∧ j < 2 ^ 62) ∧ R (Itr i (j - i).toNat) H1
theorem pi_range1 {a : Expr} {ta : TA} {p pos : Pos} (hg : Gl X "range") (hm : X.mg "range" = none) (ha : PA X [a] ta) (hs : starEach [a] X.env = [(false, eval a X.env)] := by rfl) : PI X tg (.Call (.Name "range" p) [a] [] pos) (iRng1 ta) := by
  intro pins s σ H R I h
  refine Call_ (ld_blt I hg hm boot_range (PyProof.Rows.callWith_type1 (thn (ha pos pins s σ H _ I h) fun us s1 ⟨vs, H1, I1, r1, q1⟩ => ?_) hs rfl))
  obtain ⟨j, e, q1, q2, q⟩ := q1
  subst e
  cases r1 with
  | cons r rr =>
    cases rr
    obtain ⟨t, rfl⟩ := r
    exact call_range_1 (range_it I1 (by omega) (by omega) q1 q2 (by simpa using q))
theorem pi_range2 {a b : Expr} {ta : TA} {p pos : Pos} (hg : Gl X "range") (hm : X.mg "range" = none) (ha : PA X [a, b] ta) (hs : starEach [a, b] X.env = [(false, eval a X.env), (false, eval b X.env)] := by rfl) (hs2 : starEach [b] X.env = [(false, eval b X.env)] := by rfl) :
    PI X tg (.Call (.Name "range" p) [a, b] [] pos) (iRng2 ta) := by
  intro pins s σ H R I h
  refine Call_ (ld_blt I hg hm boot_range (PyProof.Rows.callWith_type1 (thn (ha pos pins s σ H _ I h) fun us s1 ⟨vs, H1, I1, r1, q1⟩ => ?_) (by rw [hs, hs2]) (by rw [hs2]; rfl)))
  obtain ⟨i, j, e, ⟨q1, q2, q3, q4⟩, q⟩ := q1
  subst e
  cases r1 with
  | cons r rr =>
    cases rr with
    | cons r' rr =>
      cases rr
      obtain ⟨t, rfl⟩ := r
      obtain ⟨t', rfl⟩ := r'
      exact call_range_2 (range_it I1 q1 q2 q3 q4 q)

/-! ### for -/
/-- W: the invariant by the turn and a measure; N: what the body is to reach -/
def tFor (wi : TI) (g : TG) (tb : TS) : TS := fun D σ H => wi σ H fun J H1 => ∃ W : Nat → Nat → St → Hp → Prop, (∃ m, W 0 m σ H1) ∧ ∀ i m σ H, W i m σ H →
  (J.stop i H ∧ D.nx σ H) ∨ (J.go i H ∧ ∃ N : St → Hp → Prop, (∀ σ' H', N σ' H' → ∃ m', m' < m ∧ W (i + 1) m' σ' H') ∧ ∀ x H', J.yld i H x H' → g x σ H' fun σ2 H2 => tb { D with nx := N, ct := N, bk := D.nx } σ2 H2)
/-- the records at fp as they stand -/
def pinsAt (fp : List Addr) (h : Heap) : List (Addr × Obj) := fp.filterMap fun b => (h.get? b).map fun o => (b, o)
theorem mem_pinsAt {fp : List Addr} {h : Heap} {b : Addr} {o : Obj} (hb : b ∈ fp) (e : h.get? b = some o) : (b, o) ∈ pinsAt fp h := List.mem_filterMap.mpr ⟨b, hb, by rw [e]; rfl⟩
theorem of_pinsAt {fp : List Addr} {h : Heap} {p : Addr × Obj} (hp : p ∈ pinsAt fp h) : p.1 ∈ fp ∧ h.get? p.1 = some p.2 := by
  obtain ⟨b, hb, e⟩ := List.mem_filterMap.mp hp
  cases q : h.get? b with
  | none => rw [q] at e; cases e
  | some o =>
    rw [q] at e
    have e' : (b, o) = p := Option.some.inj e
    subst e'
    exact ⟨hb, q⟩
theorem Inv.pinned {pins : List (Addr × Obj)} {σ : St} {H : Hp} {s : Shared} {fp : List Addr} (I : Inv X pins σ H s) (hf : ∀ b ∈ fp, FpOk X pins H b) (ho : ∀ b ∈ fp, ∃ o, s.heap.get? b = some o ∧ ∀ v, o.data ≠ .cell v) : Inv X (pins ++ pinsAt fp s.heap) σ H s :=
  I.pins_of fun p hp => (List.mem_append.mp hp).elim (fun z => I.pin p (List.mem_append_right _ z)) fun z => by
    obtain ⟨hb, e⟩ := of_pinsAt z
    obtain ⟨f0, f1, f2, _⟩ := hf p.1 hb
    obtain ⟨o, e', d⟩ := ho p.1 hb
    rw [e] at e'; cases e'
    exact ⟨e, f0, f1, f2, d⟩
theorem Inv.unpinned {pins pl : List (Addr × Obj)} {σ : St} {H : Hp} {s : Shared} (I : Inv X (pins ++ pl) σ H s) : Inv X pins σ H s := I.pins_of fun p hp => I.pin p (List.mem_append_right _ (List.mem_append_left _ hp))
theorem ps_for {iter : Expr} {body : List Stmt} {wi : TI} {g : TG} {tb : TS} {pos : Pos} (hp : PassesOwn (model X.prog X.w) X.A X.env X.xe) (hc : X.calm = true) (hi : PI X tg iter wi) (hg : PG X tg g) (hb : PSs X body tb)
    (hs : ∀ x, foldedSetIterable iter X.env x = pure x := by intro _; rfl) : PS X (.For tg iter body [] pos) (tFor wi g tb) := by
  intro pins s σ H D I h
  refine wpAny_For (thn (hi pins s σ H _ I h) fun v s1 h1 => thn h1 fun itv s2 h2 => ?_) hs
  obtain ⟨it, fp, tn, J, H2, e, I2, T, st2, f2, W, ⟨m0, w0⟩, turn⟩ := h2
  subst e
  -- what stays true of the iterator's objects through the loop
  have stat : ∀ {H' : Hp}, (∀ b ∈ fp, H' b = none) → ∀ b ∈ fp, FpOk X pins H' b := fun hn b hb => ⟨hn b hb, (f2 b hb).2⟩
  refine codeAny_forLoop_any (fun n s' => ∃ i σ' H', Inv X pins σ' H' s' ∧ tn i s'.heap ∧ (∀ b ∈ fp, H' b = none) ∧ W i n σ' H') ?_ m0 ⟨0, σ, H2, I2, st2, fun b hb => (f2 b hb).1, w0⟩
  rintro n s3 ⟨i, σ3, H3, I3, st3, fr3, w3⟩
  rcases turn i n σ3 H3 w3 with ⟨stop, qn⟩ | ⟨go, N, hN, step⟩
  · refine wpAny_passesOwn hp (thn (T.done X rfl rfl rfl hc i pins s3 σ3 H3 X.xe I3 (stat fr3) st3 stop) fun r s4 ⟨hr, I4⟩ => ?_)
    subst hr
    exact wpAny_execs_nil ⟨σ3, H3, I4, qn⟩
  · refine wpAny_passesOwn hp (thn (T.item X rfl rfl rfl hc i pins s3 σ3 H3 X.xe I3 (stat fr3) st3 go) fun r s4 ⟨u, hr, h4⟩ => ?_)
    subst hr
    refine wpAny_passesOwn hp (thn h4 fun _ s5 ⟨x, H5, I5, r5, y5, st5, fr5⟩ => ?_)
    have I5' := I5.pinned (stat fr5) (T.obj _ _ st5)
    refine wpAny_passesOwn hp (thn (hg _ s5 σ3 H5 x u _ I5' r5 (step x H5 y5)) fun _ s6 ⟨σ6, H6, I6, q6⟩ => ?_)
    refine wpAny_passesOwn hp (thn (hb _ s6 σ6 H6 _ I6 q6) fun f s7 q7 => ?_)
    have again : ∀ {σ7 : St} {H7 : Hp}, Inv X (pins ++ pinsAt fp s5.heap) σ7 H7 s7 → N σ7 H7 → ∃ m, m < n ∧ ∃ i σ' H', Inv X pins σ' H' s7 ∧ tn i s7.heap ∧ (∀ b ∈ fp, H' b = none) ∧ W i m σ' H' := fun {σ7 H7} I7 n7 => by
      obtain ⟨m', hm, w7⟩ := hN σ7 H7 n7
      refine ⟨m', hm, i + 1, σ7, H7, I7.unpinned, T.keep _ _ _ st5 fun b hb o e => (I7.pin (b, o) (List.mem_append_right _ (List.mem_append_right _ (mem_pinsAt hb e)))).1, fun b hb => ?_, w7⟩
      obtain ⟨o, e, d⟩ := T.obj _ _ st5 b hb
      exact (I7.pin (b, o) (List.mem_append_right _ (List.mem_append_right _ (mem_pinsAt hb e)))).2.1
    cases f with
    | next => obtain ⟨σ7, H7, I7, n7⟩ := q7; exact again I7 n7
    | cont => obtain ⟨σ7, H7, I7, n7⟩ := q7; exact again I7 n7
    | brk => obtain ⟨σ7, H7, I7, q7⟩ := q7; exact ⟨σ7, H7, I7.unpinned, q7⟩
    | ret v => obtain ⟨x7, σ7, H7, I7, r7, q7⟩ := q7; exact ⟨x7, σ7, H7, I7.unpinned, r7, q7⟩
end

/-! ### the forms one uses -/
/-- over a list that the body leaves as it is -/
theorem for_list {K : PySem.W.Frag} {a : Addr} {xs : List V} {g : TG} {tb : TS} {D : Ends} {σ : St} {H : Hp} (Pv : Nat → St → Hp → Prop) (h0 : Pv 0 σ H) (hl : ∀ i σ H, i ≤ xs.length → Pv i σ H → SqL K H a xs)
    (hs : ∀ i x σ H, xs[i]? = some x → Pv i σ H → g x σ H fun σ2 H2 => tb { D with nx := Pv (i + 1), ct := Pv (i + 1), bk := D.nx } σ2 H2) (hd : ∀ σ H, Pv xs.length σ H → D.nx σ H) :
    ∃ W : Nat → Nat → St → Hp → Prop, (∃ m, W 0 m σ H) ∧ ∀ i m σ H, W i m σ H →
      ((Itl K a).stop i H ∧ D.nx σ H) ∨ ((Itl K a).go i H ∧ ∃ N : St → Hp → Prop, (∀ σ' H', N σ' H' → ∃ m', m' < m ∧ W (i + 1) m' σ' H') ∧ ∀ x H', (Itl K a).yld i H x H' → g x σ H' fun σ2 H2 => tb { D with nx := N, ct := N, bk := D.nx } σ2 H2) := by
  refine ⟨fun i m σ H => m = xs.length - i ∧ i ≤ xs.length ∧ Pv i σ H, ⟨xs.length, by simp, Nat.zero_le _, h0⟩, ?_⟩
  rintro i m σ H ⟨rfl, hi, p⟩
  have q := hl i σ H hi p
  by_cases hlt : i < xs.length
  · refine .inr ⟨⟨xs, xs[i], q, by simp [hlt]⟩, Pv (i + 1), fun σ' H' p' => ⟨xs.length - (i + 1), by omega, rfl, hlt, p'⟩, fun x H' y => ?_⟩
    obtain ⟨e, y⟩ := y
    subst e
    exact hs i x σ _ (y xs q) p
  · have e : i = xs.length := by omega
    subst e
    exact .inl ⟨⟨xs, q, Nat.le_refl _⟩, hd σ H p⟩
theorem for_range {lo : Int} {n : Nat} {g : TG} {tb : TS} {D : Ends} {σ : St} {H : Hp} (Pv : Nat → St → Hp → Prop) (h0 : Pv 0 σ H)
    (hs : ∀ i σ H, i < n → Pv i σ H → g (.int (lo + i)) σ H fun σ2 H2 => tb { D with nx := Pv (i + 1), ct := Pv (i + 1), bk := D.nx } σ2 H2) (hd : ∀ σ H, Pv n σ H → D.nx σ H) :
    ∃ W : Nat → Nat → St → Hp → Prop, (∃ m, W 0 m σ H) ∧ ∀ i m σ H, W i m σ H →
      ((Itr lo n).stop i H ∧ D.nx σ H) ∨ ((Itr lo n).go i H ∧ ∃ N : St → Hp → Prop, (∀ σ' H', N σ' H' → ∃ m', m' < m ∧ W (i + 1) m' σ' H') ∧ ∀ x H', (Itr lo n).yld i H x H' → g x σ H' fun σ2 H2 => tb { D with nx := N, ct := N, bk := D.nx } σ2 H2) := by
  refine ⟨fun i m σ H => m = n - i ∧ i ≤ n ∧ Pv i σ H, ⟨n, by simp, Nat.zero_le _, h0⟩, ?_⟩
  rintro i m σ H ⟨rfl, hi, p⟩
  by_cases hlt : i < n
  · refine .inr ⟨hlt, Pv (i + 1), fun σ' H' p' => ⟨n - (i + 1), by omega, rfl, hlt, p'⟩, fun x H' y => ?_⟩
    obtain ⟨e, y⟩ := y
    subst e y
    exact hs i σ _ hlt p
  · have e : i = n := by omega
    subst e
    exact .inl ⟨Nat.le_refl _, hd σ H p⟩
end L2

namespace L2
open PySem PySem.Spec PyProof.Rows

abbrev R2 := V → V → Hp → VK → Prop
/-- a two-place operation on values: f is binaryOp op, inplaceOp op or compareOp op -/
def OpR (X : Cx) (f : Value → Value → Sem Value) (r : R2) : Prop :=
  ∀ (pins : List (Addr × Obj)) (s : Shared) (σ : St) (H : Hp) (x y : V) (v u : Value) (Q : VK), Inv X pins σ H s → RelV x v → RelV y u → r x y H Q →
    wpAny (model X.prog X.w) X.A (f v u) (EP X pins σ Q) X.xe s
/-- a one-place operation -/
def UnR (X : Cx) (f : Value → Sem Value) (r : V → Hp → VK → Prop) : Prop :=
  ∀ (pins : List (Addr × Obj)) (s : Shared) (σ : St) (H : Hp) (x : V) (v : Value) (Q : VK), Inv X pins σ H s → RelV x v → r x H Q →
    wpAny (model X.prog X.w) X.A (f v) (EP X pins σ Q) X.xe s
/-- a call of a value that is known (a builtin, a type) with values -/
def CallR (X : Cx) (f : Value) (r : List V → Hp → VK → Prop) : Prop :=
  ∀ (pins : List (Addr × Obj)) (s : Shared) (σ : St) (H : Hp) (xs : List V) (us : List Value) (Q : VK), Inv X pins σ H s → Vals xs us → r xs H Q →
    wpAny (model X.prog X.w) X.A (call f us) (EP X pins σ Q) X.xe s
def tOp (r : R2) (ta tb : TE) : TE := fun σ H Q => ta σ H fun x H1 => tb σ H1 fun y H2 => r x y H2 Q
def tUn (r : V → Hp → VK → Prop) (ta : TE) : TE := fun σ H Q => ta σ H fun x H1 => r x H1 Q
/-- ints in, under C, and a value out -/
def rI (C : Int → Int → Prop) (g : Int → Int → V) : R2 := fun x y H Q => ∃ i j, x = .int i ∧ y = .int j ∧ C i j ∧ Q (g i j) H
def rI0 (g : Int → Int → V) : R2 := fun x y H Q => ∃ i j, x = .int i ∧ y = .int j ∧ Q (g i j) H
def rU (g : Int → V) : V → Hp → VK → Prop := fun x H Q => ∃ i, x = .int i ∧ Q (g i) H

section
variable {X : Cx} {a b c : Expr} {ta tb tc : TE} {pos : Pos}

theorem binT (ha : PE X a ta) (hb : PE X b tb) {pins : List (Addr × Obj)} {s : Shared} {σ : St} {H : Hp} {R : V → V → Hp → Prop} (I : Inv X pins σ H s)
    (h : ta σ H fun x H1 => tb σ H1 fun y H2 => R x y H2) {Q : Value → Shared → Prop} {f : Value → Value → Sem Value}
    (hf : ∀ v u s2 x y H2, Inv X pins σ H2 s2 → RelV x v → RelV y u → R x y H2 → wpAny (model X.prog X.w) X.A (f v u) Q X.xe s2) :
    wpAny (model X.prog X.w) X.A (eval a X.env) (fun v s₁ => wpAny (model X.prog X.w) X.A (eval b X.env) (fun u s₂ => wpAny (model X.prog X.w) X.A (f v u) Q X.xe s₂) X.xe s₁) X.xe s := by
  refine thn (ha pins s σ H _ I h) fun v s1 ⟨x, H1, I1, r1, q1⟩ => ?_
  refine thn (hb pins s1 σ H1 _ I1 q1) fun u s2 ⟨y, H2, I2, r2, q2⟩ => ?_
  exact hf v u s2 x y H2 I2 r1 r2 q2

theorem pe_op {op : Operator} {r : R2} (ho : OpR X (binaryOp op) r) (ha : PE X a ta) (hb : PE X b tb) : PE X (.BinOp a op b pos) (tOp r ta tb) := by
  intro pins s σ H Q I h
  exact wpAny_BinOp (binT ha hb I h fun v u s2 x y H2 I2 rx ry q => ho pins s2 σ H2 x y v u Q I2 rx ry q)
theorem pe_un {op : UnaryOp} {r : V → Hp → VK → Prop} (ho : UnR X (unaryOp op) r) (ha : PE X a ta) : PE X (.UnaryOp op a pos) (tUn r ta) := by
  intro pins s σ H Q I h
  exact UnaryOp_ (thn (ha pins s σ H _ I h) fun v s1 ⟨x, H1, I1, r1, q1⟩ => ho pins s1 σ H1 x v Q I1 r1 q1)
/-! ### ints -/
theorem opI {f : Value → Value → Sem Value} {C : Int → Int → Prop} {g : Int → Int → Int}
    (rule : ∀ (i j : Int) (t u : Tok) (s : Shared) (Q : Value → Shared → Prop) (E : Value → Shared → Prop), C i j → Q (.int (g i j) s.toks) { s with toks := s.toks + 1 } → wpAny (model X.prog X.w) X.A (f (.int i t) (.int j u)) Q E s) :
    OpR X f (rI C fun i j => .int (g i j)) := by
  intro pins s σ H x y v u Q I rx ry h
  obtain ⟨i, j, rfl, rfl, hc, q⟩ := h
  obtain ⟨t, rfl⟩ := rx
  obtain ⟨t', rfl⟩ := ry
  exact rule i j t t' s _ _ hc ⟨.int (g i j), H, I.tok _, ⟨_, rfl⟩, q⟩
theorem opI0 {f : Value → Value → Sem Value} {g : Int → Int → Int}
    (rule : ∀ (i j : Int) (t u : Tok) (s : Shared) (Q : Value → Shared → Prop) (E : Value → Shared → Prop), Q (.int (g i j) s.toks) { s with toks := s.toks + 1 } → wpAny (model X.prog X.w) X.A (f (.int i t) (.int j u)) Q E s) :
    OpR X f (rI0 fun i j => .int (g i j)) := by
  intro pins s σ H x y v u Q I rx ry h
  obtain ⟨i, j, rfl, rfl, q⟩ := h
  obtain ⟨t, rfl⟩ := rx
  obtain ⟨t', rfl⟩ := ry
  exact rule i j t t' s _ _ ⟨.int (g i j), H, I.tok _, ⟨_, rfl⟩, q⟩
theorem opB0 {f : Value → Value → Sem Value} {g : Int → Int → Bool}
    (rule : ∀ (i j : Int) (t u : Tok) (s : Shared) (Q : Value → Shared → Prop) (E : Value → Shared → Prop), Q (.bool (g i j)) s → wpAny (model X.prog X.w) X.A (f (.int i t) (.int j u)) Q E s) :
    OpR X f (rI0 fun i j => .bl (g i j)) := by
  intro pins s σ H x y v u Q I rx ry h
  obtain ⟨i, j, rfl, rfl, q⟩ := h
  obtain ⟨t, rfl⟩ := rx
  obtain ⟨t', rfl⟩ := ry
  exact rule i j t t' s _ _ ⟨.bl (g i j), H, I, rfl, q⟩

def CDiv (i j : Int) : Prop := 0 < j ∧ j < 1073741824
def CPow (i j : Int) : Prop := 0 ≤ j ∧ j ≤ 1000000 ∧ i.natAbs < 2 ^ 64
def CMul (i j : Int) : Prop := (-(2 ^ 64) < i ∧ i < 2 ^ 64) ∨ (-(2 ^ 64) < j ∧ j < 2 ^ 64)
theorem CMul.ok {i j : Int} (h : CMul i j) : IntMulOk i j := by
  rcases h with ⟨h1, h2⟩ | ⟨h1, h2⟩
  · exact .of_left (intBits_le_64 h1 h2)
  · exact .of_right (intBits_le_64 h1 h2)
theorem op_add : OpR X (binaryOp .Add) (rI0 fun i j => .int (i + j)) := opI0 fun _ _ _ _ _ _ _ q => add_int q
theorem op_sub : OpR X (binaryOp .Sub) (rI0 fun i j => .int (i - j)) := opI0 fun _ _ _ _ _ _ _ q => sub_int q
theorem op_mul : OpR X (binaryOp .Mult) (rI CMul fun i j => .int (i * j)) := opI fun _ _ _ _ _ _ _ hc q => mul_int q hc.ok
/-- // by a positive divisor -/
theorem op_fdiv : OpR X (binaryOp .FloorDiv) (rI CDiv fun i j => .int (i / j)) := opI fun i j _ _ _ _ _ hc q => by
  have h1 : (0 : Int) < j := hc.1
  have h2 : j < 1073741824 := hc.2
  exact floordiv_int (by omega) (by rw [Int.fdiv_eq_ediv_of_nonneg i (by omega)]; exact q) (.inl (PyProof.noPylong_small (by omega)))
/-- % by a positive divisor of any size -/
theorem op_mod : OpR X (binaryOp .Mod) (rI (fun _ j => 0 < j) fun i j => .int (i % j)) := opI fun i j _ _ _ _ _ hc q => by
  have h1 : (0 : Int) < j := hc
  exact mod_int' (by omega) (by rw [Int.fmod_eq_emod_of_nonneg i (by omega)]; exact q)
theorem op_pow : OpR X (binaryOp .Pow) (rI CPow fun i j => .int (i ^ j.toNat)) := opI fun _ _ _ _ _ _ _ hc q => pow_int_small hc.1 hc.2.1 hc.2.2 q
theorem unI {f : Value → Sem Value} {g : Int → Int}
    (rule : ∀ (i : Int) (t : Tok) (s : Shared) (Q : Value → Shared → Prop) (E : Value → Shared → Prop), Q (.int (g i) s.toks) { s with toks := s.toks + 1 } → wpAny (model X.prog X.w) X.A (f (.int i t)) Q E s) :
    UnR X f (rU fun i => .int (g i)) := by
  intro pins s σ H x v Q I rx h
  obtain ⟨i, rfl, q⟩ := h
  obtain ⟨t, rfl⟩ := rx
  exact rule i t s _ _ ⟨.int (g i), H, I.tok _, ⟨_, rfl⟩, q⟩
theorem un_neg : UnR X (unaryOp .USub) (rU fun i => .int (-i)) := unI fun _ _ _ _ _ q => neg_int q
/-! ### bools among ints: n += (a < b) -/
end

/-! ### comparisons -/
/-- the scalars that == tells apart as data does -/
def scal : V → V → Bool
  | .non, .non => true | .non, .int _ => true | .int _, .non => true | .non, .bl _ => true | .bl _, .non => true | .non, .str _ => true | .str _, .non => true
  | .int _, .int _ => true | .bl _, .bl _ => true | .str _, .str _ => true | .byt _, .byt _ => true
  | .int _, .str _ => true | .str _, .int _ => true | .bl _, .str _ => true | .str _, .bl _ => true
  | _, _ => false
def rEq : R2 := fun x y H Q => scal x y = true ∧ Q (.bl (decide (x = y))) H
theorem dec_int {i j : Int} : decide (V.int i = V.int j) = (i == j) := by
  rw [Bool.eq_iff_iff]
  simp
theorem dec_bl {i j : Bool} : decide (V.bl i = V.bl j) = (i == j) := by
  rw [Bool.eq_iff_iff]
  simp
theorem dec_str {i j : Str} : decide (V.str i = V.str j) = (i == j) := by
  rw [Bool.eq_iff_iff]
  simp
theorem dec_byt {i j : Array UInt8} : decide (V.byt i = V.byt j) = (i.toList == j.toList) := by
  rw [Bool.eq_iff_iff]
  cases i
  cases j
  simp

section
variable {X : Cx} {a b c : Expr} {ta tb tc : TE} {pos : Pos}
theorem fin_bl {pins : List (Addr × Obj)} {σ : St} {H : Hp} {s : Shared} {Q : VK} {k k' : Bool} (I : Inv X pins σ H s) (q : Q (.bl k) H) (e : k = k') : EP X pins σ Q (.bool k') s := by
  subst e
  exact ⟨.bl k, H, I, rfl, q⟩
theorem op_eq : OpR X (compareOp .Eq) rEq := by
  intro pins s σ H x y v u Q I rx ry h
  obtain ⟨hs, q⟩ := h
  cases x with
  | non =>
    cases rx
    cases y with
    | non => cases ry; exact PySem.EqNone.eq_none_none (fin_bl I q (by simp))
    | bl j => cases ry; exact PySem.EqNone.eq_none_bool (fin_bl I q (by simp))
    | int j => obtain ⟨t', rfl⟩ := ry; exact PySem.EqNone.eq_none_int (fin_bl I q (by simp))
    | str j => obtain ⟨t', rfl⟩ := ry; exact PySem.EqNone.eq_none_str (fin_bl I q (by simp))
    | _ => exact absurd (show false = true from hs) Bool.false_ne_true
  | bl i =>
    cases rx
    cases y with
    | non => cases ry; exact PySem.EqNone.eq_bool_none (fin_bl I q (by simp))
    | bl j => cases ry; exact eq_bool (fin_bl I q dec_bl)
    | str j => obtain ⟨t', rfl⟩ := ry; exact PySem.EqMixed.eq_bool_str (fin_bl I q (by simp))
    | _ => exact absurd (show false = true from hs) Bool.false_ne_true
  | int i =>
    obtain ⟨t, rfl⟩ := rx
    cases y with
    | non => cases ry; exact PySem.EqNone.eq_int_none (fin_bl I q (by simp))
    | int j => obtain ⟨t', rfl⟩ := ry; exact eq_int (fin_bl I q dec_int)
    | str j => obtain ⟨t', rfl⟩ := ry; exact PySem.EqMixed.eq_int_str (fin_bl I q (by simp))
    | _ => exact absurd (show false = true from hs) Bool.false_ne_true
  | str i =>
    obtain ⟨t, rfl⟩ := rx
    cases y with
    | non => cases ry; exact PySem.EqNone.eq_str_none (fin_bl I q (by simp))
    | bl j => cases ry; exact PySem.EqMixed.eq_str_bool (fin_bl I q (by simp))
    | int j => obtain ⟨t', rfl⟩ := ry; exact PySem.EqMixed.eq_str_int (fin_bl I q (by simp))
    | str j => obtain ⟨t', rfl⟩ := ry; exact eq_str (fin_bl I q dec_str)
    | _ => exact absurd (show false = true from hs) Bool.false_ne_true
  | byt i =>
    obtain ⟨t, rfl⟩ := rx
    cases y with
    | byt j => obtain ⟨t', rfl⟩ := ry; exact PySem.W.eq_bytes (fin_bl I q dec_byt)
    | _ => exact absurd (show false = true from hs) Bool.false_ne_true
  | _ => cases y <;> exact absurd (show false = true from hs) Bool.false_ne_true
theorem op_lt : OpR X (compareOp .Lt) (rI0 fun i j => .bl (decide (i < j))) := opB0 fun _ _ _ _ _ _ _ q => lt_int q
theorem op_le : OpR X (compareOp .LtE) (rI0 fun i j => .bl (decide (i ≤ j))) := opB0 fun _ _ _ _ _ _ _ q => le_int q
theorem op_gt : OpR X (compareOp .Gt) (rI0 fun i j => .bl (decide (j < i))) := opB0 fun _ _ _ _ _ _ _ q => gt_int q
theorem op_ge : OpR X (compareOp .GtE) (rI0 fun i j => .bl (decide (j ≤ i))) := opB0 fun _ _ _ _ _ _ _ q => ge_int q
theorem nomark (b : Expr) {op : CmpOp} (h : op ≠ .In := by decide) (h2 : op ≠ .NotIn := by decide) : behindInMarks op b = false := by
  have e1 : (op == CmpOp.In) = false := by cases op <;> first | rfl | exact absurd rfl h
  have e2 : (op == CmpOp.NotIn) = false := by cases op <;> first | rfl | exact absurd rfl h2
  cases b <;> simp [behindInMarks, e1, e2]
/-- a comparison as a value; hm: nomark b, or (for in, not in) by with_unfolding_all rfl -/
theorem pe_cmpR {op : CmpOp} {r : R2} (ho : OpR X (compareOp op) r) (ha : PE X a ta) (hb : PE X b tb) (hm : behindInMarks op b = false) : PE X (.Compare a [op] [b] pos) (tOp r ta tb) := by
  intro pins s σ H Q I h
  exact wpAny_Compare1 (binT ha hb I h fun v u s2 x y H2 I2 rx ry q => ho pins s2 σ H2 x y v u Q I2 rx ry q) hm
/-- a reading of a value as a test -/
def tTest (t : TE) : TT := fun σ H Q => t σ H fun x H' => ∃ k, x = .bl k ∧ Q k H'
theorem pt_cmpR {op : CmpOp} {r : R2} (ho : OpR X (compareOp op) r) (ha : PE X a ta) (hb : PE X b tb) (hm : behindInMarks op b = false) : PT X (.Compare a [op] [b] pos) (tTest (tOp r ta tb)) := by
  intro pins s σ H Q I h
  refine wpAny_isTrue_Compare1 (thn (ha pins s σ H _ I h) fun v s1 ⟨x, H1, I1, r1, q1⟩ => thn (hb pins s1 σ H1 _ I1 q1) fun u s2 ⟨y, H2, I2, r2, q2⟩ =>
    thn (ho pins s2 σ H2 x y v u _ I2 r1 r2 q2) fun c s3 ⟨z, H3, I3, r3, k, e, q3⟩ => ?_) hm
  subst e
  cases r3
  exact wpAny_truthy_bool ⟨H3, I3, q3⟩
/-! ### truth -/
theorem line63 : (sizeLine : Nat) < 2 ^ 63 := by rw [sizeLine_eq]; decide
/-! ### strs and bytes -/
/-! ### scalar builtins, by CallR -/
theorem vals1 {x : V} {us : List Value} (r : Vals [x] us) : ∃ u, us = [u] ∧ RelV x u := by
  cases r with
  | cons r1 r2 => cases r2; exact ⟨_, rfl, r1⟩
theorem vals2 {x y : V} {us : List Value} (r : Vals [x, y] us) : ∃ u w', us = [u, w'] ∧ RelV x u ∧ RelV y w' := by
  cases r with
  | cons r1 r2 =>
    cases r2 with
    | cons r3 r4 => cases r4; exact ⟨_, _, rfl, r1, r3⟩
theorem call_abs : CallR X (.builtin "abs") (fun xs H Q => ∃ i, xs = [.int i] ∧ Q (.int (if i < 0 then -i else i)) H) := by
  intro pins s σ H xs us Q I r h
  obtain ⟨i, rfl, q⟩ := h
  obtain ⟨u, rfl, t, rfl⟩ := vals1 r
  exact call_abs_int fun u tk => ⟨.int (if i < 0 then -i else i), H, I.tok _, ⟨_, rfl⟩, q⟩
end
end L2

namespace L2
open PySem PySem.Spec PyProof.Rows

/-! ### an instance, its attributes a map -/
structure ObjM (h : Heap) (x dx C : Addr) (mA : Str → Option Value) : Prop where
  obj : h.get? x = some (PySem.W.instObj C dx)
  ns : h.Ns1 dx mA
  ne : dx ≠ x

theorem lookIn_ns {h : Heap} {dx : Addr} {mA : Str → Option Value} (n : h.Ns1 dx mA) : ∃ od, h.get? dx = some od ∧ ∀ name, PySem.W.lookIn name od = some (mA name) := by
  obtain ⟨o, es, ep, ho, hd, hk, _, hm⟩ := n
  refine ⟨o, ho, fun name => ?_⟩
  have e := hm name
  unfold nsFind findBy at e
  rw [← Array.find?_toList] at e
  unfold PySem.W.lookIn
  rw [hd]
  dsimp only
  split
  · rename_i y q
    rw [q] at e
    exact congrArg some e
  · rename_i q
    rw [q] at e
    have a : es.toList.any (·.refKey) = false := by
      rw [List.any_eq_false]
      intro y hy
      obtain ⟨z, t, hkey⟩ := hk y (Array.mem_toList_iff.mp hy)
      simp [DictEntry.refKey, hkey]
    have a' : ¬ es.toList.any (·.refKey) = true := by rw [a]; exact Bool.false_ne_true
    rw [if_neg a']
    exact congrArg some e

theorem ObjM.look {h : Heap} {x dx C : Addr} {mA : Str → Option Value} (I : ObjM h x dx C mA) : ∃ od, PySem.W.InstAt h x (PySem.W.instObj C dx) C (some od) ∧ ∀ name, PySem.W.lookIn name od = some (mA name) :=
  let ⟨od, ho, hl⟩ := lookIn_ns I.ns
  ⟨od, ⟨I.obj, rfl, rfl, ho⟩, hl⟩

section
variable {prog : Program} {w : World} {A : Around} {E : Value → Shared → Prop} {s : Shared} {K : PySem.W.Frag} {x dx C f : Addr} {mA : Str → Option Value} {name : Str} {v : Value}

end

/-! ### the attributes as a list of pairs -/
theorem RelO.some_of {v : V} {o : Option Value} (r : RelO (some v) o) : ∃ u, o = some u ∧ RelV v u := by
  cases o with
  | none => exact (show False from r).elim
  | some u => exact ⟨u, rfl, r⟩
section
variable {P : Program} {w : World} {H H' : Hp} {h h' : Heap} {a C dx : Addr} {fs fs' : List (Str × V)}
theorem ins_get (hok : HOk P w H h) (e : H a = some (.ins C dx fs)) : ∃ mA, ObjM h a dx C mA ∧ (∀ f, RelO (fs.lookup f) (mA f)) ∧ PySem.Within mA (fs.map (·.1)) ∧ fs.length ≤ 1000 ∧ H dx = some (.own a) := by
  obtain ⟨d, z, ne, ob, mA, n, r, q⟩ := (show ObjOk P w H h a (.ins C dx fs) from hok a _ e)
  exact ⟨mA, ⟨ob, n, ne⟩, r, q, z, d⟩
end

/-! ### what of the text a class must have -/
structure Cls (K : PySem.W.Frag) (C : Addr) : Prop where
  pg : PySem.W.plainGet K C Str.empty = true
  hd : PySem.W.hasDictIn K C = true
  po : PySem.W.plainOver K C = true
  sa : PySem.W.findIn K (.ref C) "__setattr__" = some (some (.builtin "object.__setattr__"))
theorem Cls.get {K : PySem.W.Frag} {C : Addr} (c : Cls K C) (f : Str) : PySem.W.plainGet K C f = true := c.pg
section
variable {X : Cx} {pins : List (Addr × Obj)} {σ : St} {H : Hp} {s : Shared} {a C dx : Addr} {fs : List (Str × V)} {f : Str} {v : V} {A : Around} {E : Value → Shared → Prop}

end

/-! ### readings and rules -/
section
variable {X : Cx} {o e value : Expr} {f : Str} {pos pos' tpos : Pos} {ta tv : TE}
end

/-! ### isinstance -/
section
variable {X : Cx} {pins : List (Addr × Obj)} {σ : St} {H : Hp} {s : Shared} {A : Around} {E : Value → Shared → Prop} {Q : Value → Shared → Prop} {c : Value} {b : Bool}
/-- the type of a value, as the fragment's deciders take it; for an instance its class -/
inductive TyOf (K : PySem.W.Frag) (H : Hp) : V → Value → Prop where
  | non : TyOf K H .non (.type "NoneType")
  | bl (x : Bool) : TyOf K H (.bl x) (.type "bool")
  | int (i : Int) : TyOf K H (.int i) (.type "int")
  | str (x : Str) : TyOf K H (.str x) (.type "str")
  | flt (x : UInt64) : TyOf K H (.flt x) (.type "float")
  | lst {a : Addr} {xs : List V} (e : H a = some (.lst xs)) : TyOf K H (.ref a) (.type "list")
  | frz {a : Addr} {o : Obj} {xs : List V} (e : H a = some (.frz o (.lst xs))) : TyOf K H (.ref a) (.type "list")
  | tup {a : Addr} {xs : List V} (e : H a = some (.tup xs)) : TyOf K H (.ref a) (.type "tuple")
  | dK {a : Addr} {kvs : List (Key × V)} (e : H a = some (.dK kvs)) : TyOf K H (.ref a) (.type "dict")
  | dT {a : Addr} {kvs : List (List Key × V)} (e : H a = some (.dT kvs)) : TyOf K H (.ref a) (.type "dict")
  | ins {a C dx : Addr} {fs : List (Str × V)} (e : H a = some (.ins C dx fs)) (cl : Cls K C) (ha : PySem.W.findIn K (.ref C) "__class__" = some (some (.builtin "object.__class__")))
      (hn : PySem.W.specialIn K (.builtin "object.__class__") "__get__" = some (some (.builtin "getset_descriptor.__get__"))) (htk : PySem.W.takesIn K (.builtin "object.__class__") = some true)
      (hm : PySem.W.mroIn K C (.type "object") = some true) : TyOf K H (.ref a) (.ref C)
/-- isinstance(x, c) for one class c, a built-in or an own one: kitOne's answer -/
theorem isinst_ok {x : V} {u t : Value} (I : Inv X pins σ H s) (rx : RelV x u) (ty : TyOf X.K H x t) (e : PySem.W.kitOne X.K t c = some b) (h : ∀ tk, Q (.bool b) { s with toks := tk }) :
    wpAny (model X.prog X.w) A (call (.builtin "isinstance") [u, c]) Q E s := by
  cases ty with
  | non => cases (show u = Value.none from rx); exact PySem.W.kia_one PySem.W.kitx_none I.kIn True.intro e (fun z => nomatch z) h
  | bl y => cases (show u = Value.bool y from rx); exact PySem.W.kia_one PySem.W.kitx_bool I.kIn True.intro e (fun z => nomatch z) h
  | int i => obtain ⟨t, q⟩ := (show ∃ t, u = Value.int i t from rx); cases q; exact PySem.W.kia_one PySem.W.kitx_int I.kIn True.intro e (fun z => nomatch z) h
  | str y => obtain ⟨t, q⟩ := (show ∃ t, u = Value.str y t from rx); cases q; exact PySem.W.kia_one PySem.W.kitx_str I.kIn True.intro e (fun z => nomatch z) h
  | flt y => obtain ⟨t, q⟩ := (show ∃ t, u = Value.float y t from rx); cases q; exact PySem.W.kia_one PySem.W.kitx_float I.kIn True.intro e (fun z => nomatch z) h
  | @lst a xs ea =>
    cases (show u = Value.ref a from rx)
    obtain ⟨_, _, n, _, h1⟩ := (show ObjOk X.prog X.w H s.heap a (.lst xs) from I.hok a _ ea)
    exact PySem.W.kia_one PySem.W.kitx_list I.kIn ⟨_, h1, rfl⟩ e (fun z => nomatch z) h
  | @frz a ob xs ea =>
    cases (show u = Value.ref a from rx)
    obtain ⟨_, _, _, n, _, h1⟩ := (show ObjOk X.prog X.w H s.heap a (.frz ob (.lst xs)) from I.hok a _ ea)
    exact PySem.W.kia_one PySem.W.kitx_list I.kIn ⟨_, h1, rfl⟩ e (fun z => nomatch z) h
  | @tup a xs ea =>
    cases (show u = Value.ref a from rx)
    obtain ⟨_, _, _, p⟩ := (show ObjOk X.prog X.w H s.heap a (.tup xs) from I.hok a _ ea)
    obtain ⟨o, h1, h2, _⟩ := p
    exact PySem.W.kia_one PySem.W.kitx_tuple I.kIn ⟨o, h1, h2⟩ e (fun z => nomatch z) h
  | @dK a kvs ea =>
    cases (show u = Value.ref a from rx)
    obtain ⟨_, _, vs, _, p⟩ := (show ObjOk X.prog X.w H s.heap a (.dK kvs) from I.hok a _ ea)
    obtain ⟨o, es, ep, h1, h2, _⟩ := p
    exact PySem.W.kia_one PySem.W.kitx_dict I.kIn ⟨o, h1, h2.1⟩ e (fun z => nomatch z) h
  | @dT a kvs ea =>
    cases (show u = Value.ref a from rx)
    obtain ⟨_, _, xs, _, o, es, ep, h1, h2, _⟩ := (show ObjOk X.prog X.w H s.heap a (.dT kvs) from I.hok a _ ea)
    exact PySem.W.kia_one PySem.W.kitx_dict I.kIn ⟨o, h1, h2.1⟩ e (fun z => nomatch z) h
  | @ins a C dx fs ea cl ha hn htk hm =>
    cases (show u = Value.ref a from rx)
    obtain ⟨mA, O, _⟩ := ins_get I.hok ea
    obtain ⟨od, J, _⟩ := O.look
    exact PySem.W.kia_one (PySem.W.kitx_own (cl.get _) cl.hd ha hn htk hm) I.kIn J e (fun z => nomatch z) h
end
end L2

namespace L2
open PySem PySem.Spec PyProof.Rows

/-! ### room -/
structure Room (k : Nat) (A : Around) : Prop where
  hd : A.handled = none
  dp : A.depth + 3 * k + 5 < recursionLimit
  un : A.units + 16 * k + 200 < cLine
theorem Room.mono {j k : Nat} {A : Around} (r : Room k A) (h : j ≤ k) : Room j A := ⟨r.hd, by have := r.dp; omega, by have := r.un; omega⟩
theorem Room.deeper {k : Nat} {A : Around} (r : Room (k + 1) A) (env : Env) : Room k (A.deeper env) :=
  ⟨r.hd, by have := r.dp; show A.depth + 1 + 3 * k + 5 < _; omega, by have := r.un; show A.units + 3 + 16 * k + 200 < _; omega⟩
theorem Room.depth {k : Nat} {A : Around} (r : Room k A) : A.depth < recursionLimit := by have := r.dp; omega
theorem Room.units {k : Nat} {A : Around} (r : Room k A) : A.units + 64 < cLine := by have := r.un; omega
/-! ### argument lists and displays -/
def tNil : TA := fun _ H Q => Q [] H
def tCons (ta : TE) (tr : TA) : TA := fun σ H Q => ta σ H fun x H1 => tr σ H1 fun xs H2 => Q (x :: xs) H2
section
variable {X : Cx} {e : Expr} {es : List Expr} {te : TE} {t : TA} {pos : Pos}
theorem pa_nil : PA X [] tNil := fun _ _ _ _ H Q I h => Calls.spliced_nil ⟨[], H, I, .nil, h⟩
theorem pa_cons (ha : PE X e te) (hr : PA X es t) (hs : starEach (e :: es) X.env = (false, eval e X.env) :: starEach es X.env := by rfl) : PA X (e :: es) (tCons te t) := by
  intro pos pins s σ H Q I h
  rw [hs]
  show wpAny _ _ (spliced ((false, eval e X.env) :: backTo pos (starEach es X.env))) _ _ s
  refine Calls.spliced_cons (thn (ha pins s σ H _ I h) fun u s1 ⟨x, H1, I1, r1, q1⟩ => ?_)
  exact thn (hr pos pins s1 σ H1 _ I1 q1) fun us s2 ⟨xs, H2, I2, r2, q2⟩ => ⟨x :: xs, H2, I2, .cons r1 r2, q2⟩

def tLst (t : TA) : TE := fun σ H Q => t σ H fun xs H1 => xs.length ≤ sizeLine ∧ ∀ p, H1 p = none → Q (.ref p) (upd H1 p (.lst xs))
theorem pe_lst (h : PA X es t) : PE X (.List es pos) (tLst t) := by
  intro pins s σ H Q I hq
  refine wpAny_List_spliced (thn (h pos pins s σ H _ I hq) fun us s1 ⟨xs, H1, I1, r, z, q⟩ => ⟨by rw [← r.length]; exact z, ?_⟩)
  have hf : H1 s1.heap.objs.size = none := I1.hok.fresh (Nat.le_refl _)
  refine ⟨.ref s1.heap.objs.size, upd H1 s1.heap.objs.size (.lst xs), I1.laid (t' := s1.toks) (fun b u e => Heap.get?_push_of_some _ e) (Nat.le_refl _) ?_, rfl, q _ hf⟩
  exact ⟨z, us, 0, r, Heap.get?_push_size _ rfl⟩
end

/-! ### what a def promises -/
/-- a def's promise: the bound arguments in the parameters' order, the heap, the wanted end, the wanted exception -/
abbrev Sp := List V → Hp → VK → XK → Prop
/-- how an exception lies behind a call (file 08 gives it): the callers' frames, abstract heap and state ahead of the call, the wish, the exception, the state -/
abbrev CXT := List Env → Hp → Shared → XK → Value → Shared → Prop

/-- the state at a call -/
structure Env0 (P : Program) (w : World) (K : PySem.W.Frag) (mg : Str → Option Value) (base : Heap) (A : Around) (outer : List Env) (s : Shared) (H : Hp) : Prop where
  frames : A.frames = some outer
  mod : Mod K mg base
  bs : ∀ b o, base.get? b = some o → s.heap.get? b = some o ∧ H b = none
  bsz : base.objs.size ≤ s.heap.objs.size
  funs : s.heap.FunFrames base outer
  frf : ∀ b ∈ frs outer, H b = none
  hok : HOk P w H s.heap
  bare : AllBare s.gens
/-- a call's end -/
def CE (outer : List Env) (P : Program) (w : World) (H : Hp) (s : Shared) (Q : VK) (u : Value) (s' : Shared) : Prop :=
  ∃ v H', s'.os = s.os ∧ AllBare s'.gens ∧ Un (frs outer) [] H H' s.heap s'.heap ∧ HOk P w H' s'.heap ∧ RelV v u ∧ Q v H'
def CR (CX : CXT) (outer : List Env) (P : Program) (w : World) (H : Hp) (s : Shared) (Q : VK) (E : XK) (r : Result) (s' : Shared) : Prop :=
  match r with
  | .ok (.ret u) => CE outer P w H s Q u s'
  | .ok _ => False
  | .error e => CX outer H s E e s'
structure FnOk (P : Program) (w : World) (K : PySem.W.Frag) (mg : Str → Option Value) (base : Heap) (CX : CXT) (k : Nat) (f : Addr) (fd : FuncData) (ps : List Str) (sp : Sp) : Prop where
  len : ∀ vs H Q E, sp vs H Q E → vs.length = ps.length
  run : ∀ (A : Around) (outer : List Env) (s : Shared) (H : Hp) (args : Args) (us : List Value) (vs : List V) (Q : VK) (E : XK), Room k A → Env0 P w K mg base A outer s H → BindsTo s fd args (ps.zip us) → Vals vs us → sp vs H Q E →
    codeAny (model P w) A (.call (.ref f) args) (CR CX outer P w H s Q E) s
section
variable {X : Cx} {pins : List (Addr × Obj)} {σ : St} {H : Hp} {s s' : Shared}
/-- from a body: what a callee wants -/
theorem Inv.env0 (I : Inv X pins σ H s) : Env0 X.prog X.w X.K X.mg X.base X.A X.stack s H :=
  ⟨I.ok.frames, I.ok.mod, I.bs, Nat.le_trans I.ok.bsz I.sz, I.stack, I.stkFree, I.hok, I.bare⟩
/-- behind a call -/
theorem Inv.after {Q : VK} {u : Value} (I : Inv X pins σ H s) (h : CE X.stack X.prog X.w H s Q u s') : EP X pins σ Q u s' := by
  obtain ⟨v, H', os, bare, un, hok, r, q⟩ := h
  obtain ⟨hh, g, d, t, os'⟩ := s'
  obtain rfl : os' = s.os := os
  exact ⟨v, H', I.call (h' := hh) (g' := g) (d' := d) (t' := t) (ch := []) un hok bare (fun b z => absurd z (by simp)), r, q⟩
end

/-! ### calls -/
/-- f(..): the written arguments, then the defaults dvs; E: what is wanted of an exception -/
def tCall (sp : Sp) (dvs : List V) (E : XK) (t : TA) : TE := fun σ H Q => t σ H fun vs H1 => sp (vs ++ dvs) H1 Q E
/-- how the parameters are bound: us the positional arguments, kw the keywords' values by name, ds the defaults that fill up -/
def Binds (K : PySem.W.Frag) (fd : FuncData) (ps : List Str) (ds : List Value) : Prop :=
  ∀ (s : Shared) (us : List Value), K.In s.heap → (us ++ ds).length = ps.length → BindsTo s fd ⟨us, []⟩ (ps.zip (us ++ ds))
/-- every parameter is given -/
theorem Binds.all {K : PySem.W.Frag} {fd : FuncData} {ps : List Str} (h : ∀ us : List Value, us.length = ps.length → bindArgs fd ⟨us, []⟩ = pure (ps.zip us)) : Binds K fd ps [] := fun s us _ hl => by
  rw [List.append_nil] at hl ⊢
  exact .of_eq (h us hl)

/-- an exception of a callee reaches what this body wants of exceptions -/
def Passes (CX : CXT) (X : Cx) (E : XK) : Prop := ∀ (pins : List (Addr × Obj)) (σ : St) (H : Hp) (s : Shared) (e : Value) (s' : Shared), Inv X pins σ H s → CX X.stack H s E e s' → X.xe e s'

section
variable {X : Cx} {CX : CXT} {k : Nat} {f C : Addr} {fd : FuncData} {ps : List Str} {sp : Sp} {dvs : List V} {ds : List Value} {E : XK} {x m : Str} {p pos apos : Pos} {e o : Expr} {es : List Expr} {ta : TE} {t : TA}

/-- the callee runs -/
theorem run_fn {pins : List (Addr × Obj)} {σ : St} {H : Hp} {s : Shared} {Q : VK} {us : List Value} {vs : List V} (F : FnOk X.prog X.w X.K X.mg X.base CX k f fd ps sp) (hr : Room k X.A) (hb : Binds X.K fd ps ds) (hd : Vals dvs ds) (hx : Passes CX X E)
    (I : Inv X pins σ H s) (r : Vals vs us) (h : sp (vs ++ dvs) H Q E) : wpAny (model X.prog X.w) X.A (call (.ref f) us) (EP X pins σ Q) X.xe s := by
  have r2 : Vals (vs ++ dvs) (us ++ ds) := r.append hd
  have hl : (us ++ ds).length = ps.length := by rw [← r2.length]; exact F.len _ _ _ _ h
  refine wpAny_call (codeAny_mono (F.run X.A X.stack s H ⟨us, []⟩ (us ++ ds) (vs ++ dvs) Q E hr I.env0 (hb s us I.kIn hl) r2 h) fun r s' hq => ?_)
  cases r with
  | error e => exact hx pins σ H s e s' I hq
  | ok fl =>
    cases fl with
    | ret u => exact I.after hq
    | next => exact False.elim hq
    | brk => exact False.elim hq
    | cont => exact False.elim hq

theorem pe_call (F : FnOk X.prog X.w X.K X.mg X.base CX k f fd ps sp) (hr : Room k X.A) (hg : Gl X x) (hm : X.mg x = some (.ref f)) (hk : PySem.W.keepIn X.K (.ref f) = true) (hb : Binds X.K fd ps ds) (hd : Vals dvs ds) (hx : Passes CX X E)
    (ha : PA X (e :: es) t) (hdb : (x == ("__debug__" : Str)) = false := by decide) (he : starEach (e :: es) X.env = (false, eval e X.env) :: starEach es X.env := by rfl) (hpl : (backTo pos (starEach es X.env)).any (·.1) = false := by rfl) :
    PE X (.Call (.Name x p) (e :: es) [] pos) (tCall sp dvs E t) := by
  intro pins s σ H Q I h
  refine wpAny_Call_Name_kw (ld_glob I hg hm ?_ hdb)
  refine PySem.W.callWith_K (h₀ := X.base) I.ok.mod.kin hk (thn (ha pos pins s σ H _ I h) fun us s1 ⟨vs, H1, I1, r, q⟩ => ⟨I1.kIn, ?_⟩) he hpl
  exact run_fn F hr hb hd hx I1 r q
end

/-! ### keywords -/
section
variable {X : Cx} {CX : CXT} {k : Nat} {f C : Addr} {fd : FuncData} {ps ks : List Str} {sp : Sp} {E : XK} {x m : Str} {p pos apos kpos : Pos} {e o : Expr} {es : List Expr} {kws : List Keyword} {te ta : TE} {t tk : TA} {nm : Option Str}
variable {g : List Value → List Value → List Value} {gV : List V → List V → List V}
end

/-! ### a def's body keeps its promise -/
/-- names: the parameters first -/
structure FnScope (N P : List Str) (sc : Scope) : Prop where
  kind : sc.kind = .function
  co : sc.isCoroutine = false
  gen : sc.isGenerator = false
  nd : N.Nodup
  pre : N.take P.length = P
  par : ∀ x ∈ P, sc.names.lookup x = some .local ∨ sc.names.lookup x = some .cell
  nofree : ∀ y ∈ sc.names, y.2 ≠ .free

theorem bindL_out {kindOf : Str → Option NameKind} {x : Str} : ∀ {binds : List (Str × Value)} {m : Str → Option Value}, (∀ v, (x, v) ∉ binds) → bindL kindOf binds m x = m x
  | [], _, _ => rfl
  | (n, v) :: r, m, h => by
    unfold bindL
    rw [bindL_out fun w hw => h w (List.mem_cons_of_mem _ hw)]
    split
    · have : x ≠ n := by rintro rfl; exact h v List.mem_cons_self
      simp [this]
    · rfl
theorem bindC_out {kindOf : Str → Option NameKind} {x : Str} : ∀ {binds : List (Str × Value)} {m : Str → Option Value}, (∀ v, (x, v) ∉ binds) → bindC kindOf binds m x = m x
  | [], _, _ => rfl
  | (n, v) :: r, m, h => by
    unfold bindC
    rw [bindC_out fun w hw => h w (List.mem_cons_of_mem _ hw)]
    split
    · rfl
    · have : x ≠ n := by rintro rfl; exact h v List.mem_cons_self
      simp [this]
theorem bindL_get {kindOf : Str → Option NameKind} {x : Str} {v : Value} : ∀ {P : List Str} {vs : List Value} {i : Nat} {m : Str → Option Value}, P.Nodup → P[i]? = some x → vs[i]? = some v → kindOf x = some .local →
    bindL kindOf (P.zip vs) m x = some v
  | [], _, _, _, _, h, _, _ => by simp at h
  | _ :: _, [], _, _, _, _, h, _ => by simp at h
  | p :: P, w :: vs, 0, m, nd, h1, h2, hk => by
    simp at h1 h2; subst h1; subst h2
    show bindL kindOf ((p, w) :: P.zip vs) m p = _
    unfold bindL
    rw [bindL_out fun v hv => (List.nodup_cons.mp nd).1 (List.of_mem_zip hv).1, if_pos hk]
    simp
  | p :: P, w :: vs, i + 1, m, nd, h1, h2, hk => by
    show bindL kindOf ((p, w) :: P.zip vs) m x = _
    unfold bindL
    exact bindL_get (i := i) (List.nodup_cons.mp nd).2 (by simpa using h1) (by simpa using h2) hk
theorem bindC_get {kindOf : Str → Option NameKind} {x : Str} {v : Value} : ∀ {P : List Str} {vs : List Value} {i : Nat} {m : Str → Option Value}, P.Nodup → P[i]? = some x → vs[i]? = some v → kindOf x ≠ some .local →
    bindC kindOf (P.zip vs) m x = some v
  | [], _, _, _, _, h, _, _ => by simp at h
  | _ :: _, [], _, _, _, _, h, _ => by simp at h
  | p :: P, w :: vs, 0, m, nd, h1, h2, hk => by
    simp at h1 h2; subst h1; subst h2
    show bindC kindOf ((p, w) :: P.zip vs) m p = _
    unfold bindC
    rw [bindC_out fun v hv => (List.nodup_cons.mp nd).1 (List.of_mem_zip hv).1, if_neg hk]
    simp
  | p :: P, w :: vs, i + 1, m, nd, h1, h2, hk => by
    show bindC kindOf ((p, w) :: P.zip vs) m x = _
    unfold bindC
    exact bindC_get (i := i) (List.nodup_cons.mp nd).2 (by simpa using h1) (by simpa using h2) hk

/-- the names' values at the entry -/
def start (N : List Str) (vs : List V) : St := vs.map some ++ List.replicate (N.length - vs.length) none

/-- the context of a def's body, at its entry; an exception leaves the frame, then lies as CX says -/
def cxOf (CX : CXT) (P : Program) (w : World) (K : PySem.W.Frag) (mg : Str → Option Value) (base : Heap) (N : List Str) (qual : Str) (scope : Scope) (f : Addr) (cd : Value) (A : Around) (outer : List Env) (s : Shared) (H : Hp) (E : XK) : Cx where
  prog := P
  w := w
  K := K
  mg := mg
  base := base
  A := A.deeper (envOfC qual scope s.heap.objs.size f cd)
  N := N
  s₀ := s
  H₀ := H
  env := envOfC qual scope s.heap.objs.size f cd
  outer := outer
  stack := envOfC qual scope s.heap.objs.size f cd :: outer
  ex := []
  calm := true
  fn := fun _ => true
  pn := []
  xe := fun e s' => wpAny (model P w) (A.deeper (envOfC qual scope s.heap.objs.size f cd)) (leaving (envOfC qual scope s.heap.objs.size f cd) e) (fun _ s'' => CX outer H s E e s'') (fun e' s'' => CX outer H s E e' s'') s'

theorem cell_has {sc : Scope} {n : Nat} {x : Str} (h : sc.names.lookup x = some .cell) : ∃ c, (cellsFrom n sc.names []).lookup x = some c := by
  have q := PySem.W.cellsFrom_some sc.names n [] (.inl h)
  exact Option.isSome_iff_exists.mp q

theorem inv_start {CX : CXT} {P : Program} {w : World} {K : PySem.W.Frag} {mg : Str → Option Value} {base : Heap} {N ps : List Str} {qual : Str} {scope : Scope} {f : Addr} {cd : Value} {A : Around} {outer : List Env} {s s1 : Shared} {H : Hp} {E : XK} {us : List Value} {vs : List V}
    (S : FnScope N ps scope) (hd : A.handled = none) (e0 : Env0 P w K mg base A outer s H) (hl : vs.length = ps.length) (r : Vals vs us)
    (x : InCallC s s.heap.objs.size (bindL (envOfC qual scope s.heap.objs.size f cd).kindOf (ps.zip us) fun _ => none) (cellsFrom (s.heap.objs.size + 1) scope.names []) (bindC (envOfC qual scope s.heap.objs.size f cd).kindOf (ps.zip us) fun _ => none) s1) :
    Inv (cxOf CX P w K mg base N qual scope f cd A outer s H E) [] (start N vs) H s1 := by
  have hpl : ps.length ≤ N.length := by have := congrArg List.length S.pre; rw [List.length_take] at this; omega
  obtain ⟨h1, tk, rfl, hk⟩ := x.done
  have noA : ∀ b : Addr, b ∉ (cxOf CX P w K mg base N qual scope f cd A outer s H E).ex := fun b z => absurd (show b ∈ ([] : List Addr) from z) (by simp)
  refine ⟨⟨e0.mod, S.kind, rfl, rfl, Nat.le_refl _, fun y z c h1 h2 => ?_, fun y hy => ?_, fun y c _ h => ?_, fun _ => hd, Around.frames_deeper e0.frames, .inr ⟨rfl, rfl⟩, fun b z => absurd z (noA b), e0.bs, e0.bsz, fun b _ _ => noA b, fun b z => absurd z (noA b), e0.funs, e0.frf⟩,
    rfl, e0.bare, Un.kept hk, ⟨_, x.toInCall.ns, fun i y v h1 h2 h3 => ?_⟩, fun y c h => ⟨_, x.cell y c h⟩, e0.hok.fresh (Nat.le_refl _), fun y c h => ?_, fun p hp => absurd (show p ∈ ([] : List (Addr × Obj)) from hp) (by simp), e0.hok.kept hk, ?_⟩
  · exact name_of_addr x.apart (PySem.mem_of_lookup h1) (PySem.mem_of_lookup h2)
  · have hy : scope.names.lookup y = some .cell ∨ scope.names.lookup y = some .free := hy
    rcases hy with hy | hy
    · exact cell_has hy
    · exact absurd rfl (S.nofree _ (PySem.mem_of_lookup hy))
  · exact Nat.le_of_lt (x.above y c (PySem.mem_of_lookup h))
  · have hi : i < vs.length := by
      unfold start at h2
      by_cases hi : i < vs.length
      · exact hi
      · rw [List.getElem?_append_right (by simpa using hi)] at h2
        rw [List.getElem?_replicate] at h2
        split at h2 <;> cases h2
    have ha : vs[i]? = some v := by
      unfold start at h2
      rw [List.getElem?_append_left (by simpa using hi), List.getElem?_map] at h2
      cases e : vs[i]? with
      | none => rw [e] at h2; cases h2
      | some a => rw [e] at h2; cases h2; rfl
    obtain ⟨u, hu, rv⟩ := r.get ha
    have hp : ps[i]? = some y := by
      rw [← S.pre, List.getElem?_take_of_lt (by omega)]; exact h1
    have ndP : ps.Nodup := by rw [← S.pre]; exact S.nd.sublist (List.take_sublist _ _)
    refine ⟨u, rv, ?_⟩
    rcases S.par y (List.mem_of_getElem? hp) with k | k
    · exact .inl ⟨k, bindL_get ndP hp hu k⟩
    · obtain ⟨c, e⟩ := cell_has (n := s.heap.objs.size + 1) k
      refine .inr ⟨.inl k, c, e, ?_⟩
      have q := x.cell y c e
      rw [bindC_get ndP hp hu (by show scope.names.lookup y ≠ _; rw [k]; decide)] at q
      exact q
  · exact e0.hok.fresh (Nat.le_of_lt (x.above y c (PySem.mem_of_lookup h)))
  · unfold start
    show _ = N.length
    rw [List.length_append, List.length_map, List.length_replicate]
    omega

/-- THE RULE: a def (or a method) of the text, by its body. The body's reading t is chosen for each entry; it is run at the parameters' values -/
theorem fn_of {CX : CXT} {P : Program} {w : World} {K : PySem.W.Frag} {mg : Str → Option Value} {base : Heap} {k : Nat} {f : Addr} {name qual : Str} {params : Arguments} {body : List Stmt} {scope : Scope} {dV kV doc pm cdv ct oc : Value} {an od : Option Addr}
    {osl : Array (Option Value)} {N ps : List Str} {sp : Sp} (lk : K.lookup f = some ⟨oc, od, .func (PySem.W.fnOf name qual params body scope dV kV doc pm an cdv ct), osl⟩) (hcd : PySem.W.codeIn K cdv qual = true) (S : FnScope N ps scope)
    (len : ∀ vs H Q E, sp vs H Q E → vs.length = ps.length)
    (hbody : ∀ (A : Around) (outer : List Env) (s : Shared) (H : Hp) (vs : List V) (Q : VK) (E : XK), Room k (A.deeper (envOfC qual scope s.heap.objs.size f cdv)) → sp vs H Q E →
      ∃ t, PSs (cxOf CX P w K mg base N qual scope f cdv A outer s H E) body t ∧ t { nx := fun _ H' => Q .non H', rt := Q } (start N vs) H) :
    FnOk P w K mg base CX (k + 1) f (PySem.W.fnOf name qual params body scope dV kV doc pm an cdv ct) ps sp := by
  refine ⟨len, fun A outer s H args us vs Q E hr e0 hb r hsp => ?_⟩
  have hl := len _ _ _ _ hsp
  have KX : K.In s.heap := e0.mod.kin.keeps fun b o e => (e0.bs b o e).1
  have lim : s.heap.NoLimit := e0.mod.nolimit.keeps fun b o e => (e0.bs b o e).1
  have hkind : ∀ y ∈ ps.zip us, scope.names.lookup y.1 = some .local ∨ (scope.names.lookup y.1 = some .cell ∧ ((cellsFrom (s.heap.objs.size + 1) scope.names []).lookup y.1).isSome = true) := fun ⟨n, v⟩ hy => by
    rcases S.par n (List.of_mem_zip hy).1 with q | q
    · exact .inl q
    · exact .inr ⟨q, PySem.W.cellsFrom_some _ _ _ (.inl q)⟩
  refine codeAny_call_function hr.depth (KX _ _ lk) rfl S.co S.gen rfl (PySem.W.codeRec_of KX hcd) (hb _ _ _ _ ?_)
  refine wpAny_newFunctionEnv_cells S.kind hkind fun env he s1 x => ?_
  subst he
  refine ⟨lim.keeps x.toInCall.keep, codeAny_func ?_⟩
  obtain ⟨t, ht, hq⟩ := hbody A outer s H vs Q E (hr.deeper _) hsp
  have I : Inv (cxOf CX P w K mg base N qual scope f cdv A outer s H E) [] (start N vs) H s1 := inv_start S hr.hd e0 hl r x
  refine wpAny_mono (ht [] s1 (start N vs) H _ I hq) (fun fl s' hs => ?_) fun e s' hs => hs
  have fin : ∀ {σ' : St} {H' : Hp} {v : V} {u : Value}, Inv (cxOf CX P w K mg base N qual scope f cdv A outer s H E) [] σ' H' s' → RelV v u → Q v H' → CE outer P w H s Q u s' :=
    fun {σ' H' v u} J rv q => ⟨v, H', J.os, J.bare, J.base, J.hok, rv, q⟩
  cases fl with
  | ret u =>
    obtain ⟨v, σ', H', J, rv, q⟩ := hs
    exact fin J rv q
  | next =>
    obtain ⟨σ', H', J, q⟩ := hs
    exact fin (v := V.non) (u := Value.none) J rfl q
  | brk =>
    obtain ⟨_, _, _, q⟩ := hs
    exact False.elim q
  | cont =>
    obtain ⟨_, _, _, q⟩ := hs
    exact False.elim q
end L2

namespace L2
open PySem PySem.Spec PyProof.Rows
section
variable {X : Cx} {x : Str} {p pos : Pos} {e : Expr} {es : List Expr} {t : TA} {id T : String} {r : List V → Hp → VK → Prop}

def tCB (r : List V → Hp → VK → Prop) (t : TA) : TE := fun σ H Q => t σ H fun vs H1 => r vs H1 Q
/-- f(e, ..), f a built-in function -/
theorem pe_callB (hc : CallR X (.builtin id) r) (hg : Gl X x) (hm : X.mg x = none) (hv : bootBuiltins x = some (.builtin id)) (ha : PA X (e :: es) t) (hn : x ≠ "__name__" := by decide) (hdb : (x == ("__debug__" : Str)) = false := by decide)
    (he : starEach (e :: es) X.env = (false, eval e X.env) :: starEach es X.env := by rfl) (hpl : (backTo pos (starEach es X.env)).any (·.1) = false := by rfl) : PE X (.Call (.Name x p) (e :: es) [] pos) (tCB r t) := by
  intro pins s σ H Q I h
  refine wpAny_Call_Name_kw (ld_blt I hg hm hv ?_ hn hdb)
  exact PyProof.Rows.callWith_builtin1 (thn (ha pos pins s σ H _ I h) fun us s1 ⟨vs, H1, I1, r1, q1⟩ => hc pins s1 σ H1 vs us Q I1 r1 q1) he hpl
/-- T(e, ..), T a built-in type -/
theorem pe_callTy (hc : CallR X (.type T) r) (hg : Gl X x) (hm : X.mg x = none) (hv : bootBuiltins x = some (.type T)) (ha : PA X (e :: es) t) (hn : x ≠ "__name__" := by decide) (hdb : (x == ("__debug__" : Str)) = false := by decide)
    (he : starEach (e :: es) X.env = (false, eval e X.env) :: starEach es X.env := by rfl) (hpl : (backTo pos (starEach es X.env)).any (·.1) = false := by rfl) : PE X (.Call (.Name x p) (e :: es) [] pos) (tCB r t) := by
  intro pins s σ H Q I h
  refine wpAny_Call_Name_kw (ld_blt I hg hm hv ?_ hn hdb)
  exact PyProof.Rows.callWith_type1 (thn (ha pos pins s σ H _ I h) fun us s1 ⟨vs, H1, I1, r1, q1⟩ => hc pins s1 σ H1 vs us Q I1 r1 q1) he hpl
end
end L2

namespace HT
open PySem PyProof.Rows

section
open PySem.SeqAt
open PySem.AutoSeq1 (wpAny_loadPart')
open PySem.MeetsSeq PySem.MeetsSeq2 PySem.MeetsSeq3

end

section
variable {prog : Program} {w : World} {A : Around} {E : Value → Shared → Prop} {s : Shared}

/-- t + u, t not empty -/
theorem cat_tup {t b : Addr} {vs ws : List Value} {Q : Value → Shared → Prop} (ht : IsTup s.heap t vs.toArray) (hb : IsTup s.heap b ws.toArray) (hv : vs ≠ [])
    (h1 : ws = [] → Q (.ref t) s) (h2 : ws ≠ [] → Q (.ref s.heap.objs.size) { s with heap := s.heap.push { cls := .type "tuple", data := .seq (vs ++ ws).toArray } })
    (hsz : vs.length + ws.length ≤ sizeLine) : wpAny (model prog w) A (binaryOp .Add (.ref t) (.ref b)) Q E s := by
  obtain ⟨⟨cls, dd, data, sl⟩, ho, hc, n, hd⟩ := id ht
  obtain ⟨⟨cls2, dd2, data2, sl2⟩, ho2, hc2, n2, hd2⟩ := id hb
  simp only at hc hd hc2 hd2
  subst hc hd hc2 hd2
  have e : vs.toArray ++ ws.toArray = (vs ++ ws).toArray := by simp
  by_cases hw : ws = []
  · exact concat_meets ⟨_, ho, rfl⟩ ⟨_, ho2, rfl⟩ noFill_tuple_add seq_tuple_add PySem.F.slot_tuple_add PySem.F.entry_tuple_add (PySem.F.args_tuple_add_2 _ _)
      (tuple_addW1 t b vs.toArray ws.toArray n n2 dd dd2 sl sl2 (by simpa using hv) (by simp [hw])) ⟨ho, ho2, h1 hw⟩
  · refine concat_meets ⟨_, ho, rfl⟩ ⟨_, ho2, rfl⟩ noFill_tuple_add seq_tuple_add PySem.F.slot_tuple_add PySem.F.entry_tuple_add (PySem.F.args_tuple_add_2 _ _)
      (tuple_addW2 t b vs.toArray ws.toArray n n2 dd dd2 sl sl2 (by simpa using hv) (by simpa using hw) (by rw [List.size_toArray, List.size_toArray]; exact hsz)) ⟨ho, ho2, ?_⟩
    rw [e]
    exact h2 hw

/-! ### t[a:b], not the whole -/
/-- a slice's bound as a place among n (d where it is left out) -/
def sIx (n d : Nat) : Option Int → Nat
  | none => d
  | some v => if v < 0 then (v + (n : Int)).toNat else min v.toNat n
theorem sIx_none (n d : Nat) : sIx n d none = d := rfl
theorem sIx_nat (n d k : Nat) : sIx n d (some (k : Int)) = min k n := by
  show (if (k : Int) < 0 then ((k : Int) + (n : Int)).toNat else min (k : Int).toNat n) = min k n
  rw [if_neg (by omega), Int.toNat_natCast]
theorem sIx_le (n d : Nat) (hd : d ≤ n) (o : Option Int) : sIx n d o ≤ n := by
  cases o with
  | none => exact hd
  | some v =>
    show (if v < 0 then (v + (n : Int)).toNat else min v.toNat n) ≤ n
    by_cases hv : v < 0
    · rw [if_pos hv]; omega
    · rw [if_neg hv]; exact Nat.min_le_right _ _
theorem clip_eq (v : Int) (n d : Nat) : (if v < 0 then max (v + (n : Int)) 0 else min v (n : Int)) = ((sIx n d (some v) : Nat) : Int) := by
  show (if v < 0 then max (v + (n : Int)) 0 else min v (n : Int)) = (((if v < 0 then (v + (n : Int)).toNat else min v.toNat n) : Nat) : Int)
  by_cases hv : v < 0
  · simp only [if_pos hv]; omega
  · simp only [if_neg hv]; omega
theorem adjust_gen (lo hi : Option Int) (n : Nat) : Builtin.Slice.sliceAdjust lo hi 1 (n : Int) = (((sIx n 0 lo : Nat) : Int), ((sIx n n hi : Nat) : Int)) := by
  have h1 : ¬ ((1 : Int) < 0) := by omega
  unfold Builtin.Slice.sliceAdjust
  simp only [h1, if_false]
  refine Prod.ext ?_ ?_
  · cases lo with
    | none => rfl
    | some v => exact clip_eq v n 0
  · cases hi with
    | none => rfl
    | some v => exact clip_eq v n n
theorem places_gen (i j : Nat) : Builtin.Slice.slicePlaces (i : Int) (j : Int) 1 = j - i := by
  unfold Builtin.Slice.slicePlaces
  have h1 : (1 : Int) > 0 := by omega
  simp only [h1, if_true, Int.ediv_one]
  split <;> omega
theorem slicePart_ {v : Value} {o : Option Int} {Q : Option Int → Shared → Prop} (p : IsPart v o) (h : Q o s) : wpAny (model prog w) A (Builtin.Slice.slicePartIndex v) Q E s := by
  cases p with
  | none => exact slicePart_none h
  | int i t => exact slicePart_int h
theorem sliceApplied_gen {sl : Addr} {vl vu : Value} {lo hi : Option Int} {n : Nat} {Q : Int × Int × Nat → Shared → Prop} (hs : s.heap.IsSliceOf sl vl vu .none) (pl : IsPart vl lo) (pu : IsPart vu hi)
    (h : Q (((sIx n 0 lo : Nat) : Int), 1, sIx n n hi - sIx n 0 lo) s) : wpAny (model prog w) A (Builtin.Slice.sliceApplied (.ref sl) (pure (n : Int))) Q E s := by
  obtain ⟨os, hos, hcs, hds⟩ := id hs
  unfold Builtin.Slice.sliceApplied Builtin.Slice.sliceFields
  refine wpAny_bind (wpAny_bind (wpAny_field hos hds (x := vl) rfl (wpAny_bind (wpAny_field hos hds (x := vu) rfl (wpAny_bind (wpAny_field hos hds (x := .none) rfl (wpAny_pure ?_)))))))
  refine wpAny_bind (slicePart_none ?_)
  show wpAny _ _ (if ((1 : Int) == 0) = true then _ else _) _ _ s
  rw [if_neg (by decide)]
  refine wpAny_bind (slicePart_ pl (wpAny_bind (slicePart_ pu (wpAny_bind (wpAny_pure ?_)))))
  show wpAny _ _ (match Builtin.Slice.sliceAdjust lo hi 1 (n : Int) with | (lo, hi) => pure (lo, (1 : Int), Builtin.Slice.slicePlaces lo hi 1)) _ _ s
  rw [adjust_gen lo hi n]
  show wpAny _ _ (pure (((sIx n 0 lo : Nat) : Int), (1 : Int), Builtin.Slice.slicePlaces ((sIx n 0 lo : Nat) : Int) ((sIx n n hi : Nat) : Int) 1)) _ _ s
  rw [places_gen]
  exact wpAny_pure h
theorem pick_gen (xs : Array Value) (i k : Nat) : ((List.range k).filterMap fun (m : Nat) => xs[((i : Int) + (m : Int) * 1).toNat]?).toArray = ((xs.toList.drop i).take k).toArray := by
  have e : (fun (m : Nat) => xs[((i : Int) + (m : Int) * 1).toNat]?) = fun m => xs[i + m]? := by
    funext m
    have : ((i : Int) + (m : Int) * 1).toNat = i + m := by omega
    rw [this]
  rw [e]
  have := pick_run xs i k
  rw [List.filterMap_map] at this
  have e2 : ((fun x => xs[x]?) ∘ fun x => i + x) = fun m => xs[i + m]? := rfl
  rw [e2] at this
  rw [this]

theorem getItem_tuple_cut {t sl : Addr} {items : Array Value} {vl vu : Value} {lo hi : Option Int} {Q : Value → Shared → Prop} (ht : IsTup s.heap t items) (hs : s.heap.IsSliceOf sl vl vu .none) (pl : IsPart vl lo) (pu : IsPart vu hi)
    (hw : ¬ (sIx items.size 0 lo = 0 ∧ sIx items.size items.size hi = items.size))
    (h : Q (.ref s.heap.objs.size) { s with heap := s.heap.push { cls := .type "tuple", data := .seq ((items.toList.drop (sIx items.size 0 lo)).take (sIx items.size items.size hi - sIx items.size 0 lo)).toArray } })
    (hsz : items.size ≤ sizeLine) : wpAny (model prog w) A (getItem (.ref t) (.ref sl)) Q E s := by
  have htake : sizeOk (.seq ((items.toList.drop (sIx items.size 0 lo)).take (sIx items.size items.size hi - sIx items.size 0 lo)).toArray) := by
    show ((items.toList.drop (sIx items.size 0 lo)).take (sIx items.size items.size hi - sIx items.size 0 lo)).toArray.size ≤ sizeLine
    rw [List.size_toArray, List.length_take, List.length_drop, Array.length_toList]
    omega
  have hj : sIx items.size items.size hi ≤ items.size := sIx_le _ _ (Nat.le_refl _) hi
  obtain ⟨os, hos, hcs, hds⟩ := id hs
  have hTs : s.TypeIs (.ref sl) "slice" := ⟨os, hos, hcs⟩
  unfold getItem
  try with_reducible refine wpAny_holding ?_
  first | refine wpAny_bind (wpAny_pure ?_) | skip
  refine wpAny_bind (wpAny_sequenceKey ht.typeIs (by decide) ?_)
  refine wpAny_bind (wpAny_callSpecial?_slot (name := Str.ofString "__getitem__") ht.typeIs PyProof.Rows.slot_tuple_getitem
    (wpAny_call_entry PyProof.Rows.slot_tuple_getitem ht.typeIs entry_tuple_getitem ?_ (args_tuple_getitem _ _)))
  show wpAny _ _ (Builtin.Tuple.tupleItemsOf (.ref t) >>= _) _ _ s
  refine wpAny_bind (tupleItemsOf_ ht ?_)
  refine wpAny_bind (wpAny_typeOf hTs ?_)
  rw [if_pos (by decide)]
  refine wpAny_bind (sliceApplied_gen hs pl pu ?_)
  have hno : ¬ ((((sIx items.size 0 lo : Nat) : Int) == 0 && (1 : Int) == 1 && (sIx items.size items.size hi - sIx items.size 0 lo) == items.size) = true) := by
    intro q
    rw [Bool.and_eq_true, Bool.and_eq_true] at q
    have q1 : ((sIx items.size 0 lo : Nat) : Int) = 0 := eq_of_beq q.1.1
    have q2 : sIx items.size items.size hi - sIx items.size 0 lo = items.size := eq_of_beq q.2
    exact hw ⟨by omega, by omega⟩
  show wpAny _ _ (if (((sIx items.size 0 lo : Nat) : Int) == 0 && (1 : Int) == 1 && (sIx items.size items.size hi - sIx items.size 0 lo) == items.size) = true then _ else _) _ _ s
  rw [if_neg hno, pick_gen]
  first
    | exact wpAny_bind (m := Builtin.Tuple.tupleExact _) (wpAny_newObj_type (wpAny_pure ⟨_, rfl, wpAny_pure h⟩) htake)
    | exact wpAny_bind (m := Builtin.Tuple.tupleExact _) (wpAny_newObj_type (wpAny_bind (wpAny_pure (wpAny_pure ⟨_, rfl, wpAny_pure h⟩))) htake)
    | exact wpAny_bind (wpAny_bind (m := Builtin.Tuple.tupleExact _) (wpAny_newObj_type (wpAny_pure (wpAny_pure ⟨_, rfl, wpAny_pure h⟩)) htake))
    | exact wpAny_bind (wpAny_bind (m := Builtin.Tuple.tupleExact _) (wpAny_newObj_type (wpAny_pure ⟨_, rfl, wpAny_pure h⟩) htake))
end
end HT

namespace L2
open PySem PySem.Spec PyProof.Rows

/-! ### the parts of a slice -/
abbrev TO := St → Hp → (Option Int → Hp → Prop) → Prop
/-- a slice's part (left out, or an int) -/
def PO (X : Cx) (e : Option Expr) (t : TO) : Prop :=
  ∀ (pins : List (Addr × Obj)) (s : Shared) (σ : St) (H : Hp) (Q : Option Int → Hp → Prop), Inv X pins σ H s → t σ H Q →
    wpAny (model X.prog X.w) X.A (evalPart e X.env) (fun u s' => ∃ o H', Inv X pins σ H' s' ∧ IsPart u o ∧ Q o H') X.xe s
def tNoPart : TO := fun _ H Q => Q none H
def tPart (t : TE) : TO := fun σ H Q => t σ H fun x H1 => ∃ i, x = .int i ∧ Q (some i) H1

theorem intsAre_of {ns : List Int} : ∀ {us : List Value}, Vals (ns.map V.int) us → IntsAre us ns := by
  induction ns with
  | nil => intro us r; rw [List.map_nil] at r; cases r; exact .nil
  | cons n ns ih =>
    intro us r
    rw [List.map_cons] at r
    cases r with
    | cons r1 r2 =>
      obtain ⟨t, e⟩ := r1
      subst e
      exact .cons n t (ih r2)

section
variable {X : Cx} {e : Expr} {te : TE} {lo hi : Option Expr} {tl th : TO} {pos p2 : Pos}

theorem po_none : PO X none tNoPart := by
  intro pins s σ H Q I h
  rw [evalPart_none]
  exact wpAny_pure ⟨none, H, I, .none, h⟩
theorem po_some (h : PE X e te) : PO X (some e) (tPart te) := by
  intro pins s σ H Q I hw
  rw [evalPart_some]
  refine thn (h pins s σ H _ I hw) fun u s1 ⟨x, H1, I1, r1, q1⟩ => ?_
  obtain ⟨i, rfl, q⟩ := q1
  obtain ⟨t, rfl⟩ := r1
  exact ⟨some i, H1, I1, .int i t, q⟩

/-- what a slice of a value is, by values: the slice object stands at sl -/
def SlR (X : Cx) (r : V → Option Int → Option Int → Hp → VK → Prop) : Prop :=
  ∀ (pins : List (Addr × Obj)) (s : Shared) (σ : St) (H : Hp) (x : V) (v vl vu : Value) (lo hi : Option Int) (sl : Addr) (Q : VK), Inv X pins σ H s → RelV x v → s.heap.IsSliceOf sl vl vu .none → IsPart vl lo → IsPart vu hi → r x lo hi H Q →
    ∃ T id, typeLookup (.type T) "__getitem__" = pure (some (.builtin id)) ∧ s.TypeIs v T ∧ wpAny (model X.prog X.w) X.A (getItem v (.ref sl)) (EP X pins σ Q) X.xe s
def tSl (r : V → Option Int → Option Int → Hp → VK → Prop) (te : TE) (tl th : TO) : TE := fun σ H Q => te σ H fun x H1 => tl σ H1 fun l H2 => th σ H2 fun u H3 => r x l u H3 Q
/-- a[lo:hi], any a -/
theorem pe_slice {r : V → Option Int → Option Int → Hp → VK → Prop} (hr : SlR X r) (he : PE X e te) (hl : PO X lo tl) (hu : PO X hi th) : PE X (.Subscript e (.Slice lo hi none p2) pos) (tSl r te tl th) := by
  intro pins s σ H Q I h
  refine Subscript_ (thn (he pins s σ H _ I h) fun v s1 ⟨x, H1, I1, r1, q1⟩ => ?_)
  refine wpAny_Slice (thn (hl pins s1 σ H1 _ I1 q1) fun vl s2 ⟨l, H2, I2, pl, q2⟩ => thn (hu pins s2 σ H2 _ I2 q2) fun vu s3 ⟨u, H3, I3, pu, q3⟩ => ?_)
  rw [evalPart_none]
  refine wpAny_pure ?_
  have I4 : Inv X pins σ H3 { s3 with heap := s3.heap.push { cls := .type "slice", data := .fields #[vl, vu, .none] } } := I3.kept (t' := s3.toks) fun b ob q => Heap.get?_push_of_some _ q
  obtain ⟨T, id, hT, ht, hg⟩ := hr pins { s3 with heap := s3.heap.push { cls := .type "slice", data := .fields #[vl, vu, .none] } } σ H3 x v vl vu l u s3.heap.objs.size Q I4 r1 (Heap.IsSliceOf.new ..) pl pu q3
  show wpAny (model X.prog X.w) X.A (subscriptTail e (.Slice lo hi none p2) v (.ref s3.heap.objs.size)) (EP X pins σ Q) X.xe { s3 with heap := s3.heap.push { cls := .type "slice", data := .fields #[vl, vu, .none] } }
  exact tail_any (ops := [.ref s3.heap.objs.size, v]) ht hT hg (by with_unfolding_all rfl)

/-- the items of xs[lo:hi] -/
def cutV (xs : List V) (lo hi : Option Int) : List V := (xs.drop (HT.sIx xs.length 0 lo)).take (HT.sIx xs.length xs.length hi - HT.sIx xs.length 0 lo)
theorem cutV_length (xs : List V) (lo hi : Option Int) : (cutV xs lo hi).length ≤ xs.length := by
  unfold cutV
  rw [List.length_take, List.length_drop]
  omega
/-- t[lo:hi], not the whole of it (the whole would be t itself) -/
def rSlT (K : PySem.W.Frag) : V → Option Int → Option Int → Hp → VK → Prop := fun x lo hi H Q => ∃ a xs, x = .ref a ∧ SqT K H a xs ∧
  ¬ (HT.sIx xs.length 0 lo = 0 ∧ HT.sIx xs.length xs.length hi = xs.length) ∧ ∀ p, H p = none → Q (.ref p) (upd H p (.tup (cutV xs lo hi)))
theorem sl_tup : SlR X (rSlT X.K) := by
  intro pins s σ H x v vl vu lo hi sl Q I rx hs pl pu h
  obtain ⟨a, xs, rfl, hx, hw, q⟩ := h
  cases rx
  obtain ⟨its, r, ht, hz⟩ := I.tuple hx
  have hlen : its.toArray.size = xs.length := by rw [List.size_toArray]; exact r.length.symm
  refine ⟨"tuple", _, PyProof.Rows.slot_tuple_getitem.lookup, ht.typeIs, ?_⟩
  refine HT.getItem_tuple_cut ht hs pl pu (by rw [hlen]; exact hw) ?_ (by rw [hlen]; exact hz)
  rw [hlen]
  refine ⟨.ref s.heap.objs.size, _, I.laid (t' := s.toks) (o := .tup (cutV xs lo hi)) (fun b ob q => Heap.get?_push_of_some _ q) (Nat.le_refl _) ?_, rfl, q _ (I.hok.fresh (Nat.le_refl _))⟩
  exact ⟨Nat.le_trans (cutV_length xs lo hi) hz, _, (r.drop (HT.sIx xs.length 0 lo)).take (HT.sIx xs.length xs.length hi - HT.sIx xs.length 0 lo), IsTup.new _ _⟩

/-! ### t < u, t + u -/
/-- t + u, t not empty: u empty gives t itself -/
def rCatT (K : PySem.W.Frag) : R2 := fun x y H Q => ∃ a b xs ys, x = .ref a ∧ y = .ref b ∧ SqT K H a xs ∧ SqT K H b ys ∧ xs ≠ [] ∧ xs.length + ys.length ≤ sizeLine ∧
  (ys = [] → Q (.ref a) H) ∧ (ys ≠ [] → ∀ p, H p = none → Q (.ref p) (upd H p (.tup (xs ++ ys))))
theorem Vals.nil_iff {xs : List V} {us : List Value} (r : Vals xs us) : us = [] ↔ xs = [] := by
  cases r with
  | nil => simp
  | cons _ _ => simp
theorem op_catT : OpR X (binaryOp .Add) (rCatT X.K) := by
  intro pins s σ H x y v u Q I rx ry h
  obtain ⟨a, b, xs, ys, rfl, rfl, ha, hb, hx, hz, q1, q2⟩ := h
  cases rx
  cases ry
  obtain ⟨its, r1, p1, _⟩ := I.tuple ha
  obtain ⟨its2, r2, p2, _⟩ := I.tuple hb
  refine HT.cat_tup p1 p2 (fun z => hx (r1.nil_iff.mp z)) (fun z => ⟨.ref a, H, I, rfl, q1 (r2.nil_iff.mp z)⟩) (fun z => ?_) (by rw [← r1.length, ← r2.length]; exact hz)
  refine ⟨.ref s.heap.objs.size, _, I.laid (t' := s.toks) (o := .tup (xs ++ ys)) (fun b ob q => Heap.get?_push_of_some _ q) (Nat.le_refl _) ?_, rfl, q2 (fun w => z (r2.nil_iff.mpr w)) _ (I.hok.fresh (Nat.le_refl _))⟩
  exact ⟨by rw [List.length_append]; exact hz, _, r1.append r2, IsTup.new _ _⟩
end
end L2

namespace L2
open PySem PySem.Spec PyProof.Rows

/-! ### places -/
/-- the place that an index of any sign means -/
def ixN (n : Nat) (i : Int) : Option Nat := if 0 ≤ i then (if i < n then some i.toNat else none) else if -(n : Int) ≤ i then some (i + n).toNat else none
def atI {α : Type} (xs : List α) (i : Int) : Option α := (ixN xs.length i).bind fun j => xs[j]?
theorem ixN_seq {n : Nat} {i : Int} {j : Nat} (h : ixN n i = some j) : seqIndex? i n = some j ∧ j < n ∧ -(n : Int) ≤ i ∧ i < n := by
  unfold ixN at h
  by_cases h0 : 0 ≤ i
  · rw [if_pos h0] at h
    by_cases h1 : i < n
    · rw [if_pos h1] at h
      have e : i.toNat = j := Option.some.inj h
      exact ⟨by rw [seqIndex_of h0 h1, e], by omega, by omega, h1⟩
    · rw [if_neg h1] at h; cases h
  · rw [if_neg h0] at h
    by_cases h1 : -(n : Int) ≤ i
    · rw [if_pos h1] at h
      have e : (i + n).toNat = j := Option.some.inj h
      exact ⟨by rw [seqIndex_neg (by omega) h1, e], by omega, h1, by omega⟩
    · rw [if_neg h1] at h; cases h
theorem atI_get {α : Type} {xs : List α} {i : Int} {v : α} (h : atI xs i = some v) : ∃ j, seqIndex? i xs.length = some j ∧ xs[j]? = some v ∧ j < xs.length ∧ -(xs.length : Int) ≤ i ∧ i < xs.length := by
  unfold atI at h
  cases e : ixN xs.length i with
  | none => rw [e] at h; cases h
  | some j =>
    rw [e] at h
    obtain ⟨h1, h2, h3, h4⟩ := ixN_seq e
    exact ⟨j, h1, h, h2, h3, h4⟩
theorem atI_nat {α : Type} {xs : List α} {j : Nat} {v : α} (h : xs[j]? = some v) : atI xs (j : Int) = some v := by
  have hj : j < xs.length := (List.getElem?_eq_some_iff.mp h).1
  have e : ixN xs.length (j : Int) = some j := by
    unfold ixN
    rw [if_pos (by omega), if_pos (by omega)]; simp
  unfold atI; rw [e]; exact h
/-! ### what may be subscripted -/
/-- what stands as an index of a plain subscript -/
def PlainIx (b : Expr) : Prop := ∀ o i, subscripted b false o i = operate [o, i] (getItem o i)
/-- a subscript by values -/
def IxR (X : Cx) (r : R2) : Prop :=
  ∀ (value slice : Expr) (pins : List (Addr × Obj)) (s : Shared) (σ : St) (H : Hp) (x y : V) (v u : Value) (Q : VK), Inv X pins σ H s → RelV x v → RelV y u → r x y H Q →
    subscripted slice false v u = operate [v, u] (getItem v u) → wpAny (model X.prog X.w) X.A (subscriptTail value slice v u) (EP X pins σ Q) X.xe s
/-- a call of a builtin's method by values: the receiver, the arguments -/
def MtR (X : Cx) (id : String) (r : V → List V → Hp → VK → Prop) : Prop :=
  ∀ (pins : List (Addr × Obj)) (s : Shared) (σ : St) (H : Hp) (x : V) (xs : List V) (v : Value) (us : List Value) (Q : VK), Inv X pins σ H s → RelV x v → Vals xs us → r x xs H Q →
    wpAny (model X.prog X.w) X.A (call (.builtin id) (v :: us)) (EP X pins σ Q) X.xe s
section
variable {X : Cx} {a b : Expr} {ta tb : TE} {pos : Pos}
/-- a[b] -/
theorem pe_ix {r : R2} (hr : IxR X r) (ha : PE X a ta) (hb : PE X b tb) (hs : PlainIx b) : PE X (.Subscript a b pos) (tOp r ta tb) := by
  intro pins s σ H Q I h
  exact Subscript_ (binT ha hb I h fun v u s2 x y H2 I2 rx ry q => hr a b pins s2 σ H2 x y v u Q I2 rx ry q (hs _ _))

def rIxL (K : PySem.W.Frag) : R2 := fun x y H Q => ∃ p xs i v, x = .ref p ∧ y = .int i ∧ SqL K H p xs ∧ atI xs i = some v ∧ Q v H
def rIxT (K : PySem.W.Frag) : R2 := fun x y H Q => ∃ p xs i v, x = .ref p ∧ y = .int i ∧ SqT K H p xs ∧ atI xs i = some v ∧ Q v H
theorem ix_list : IxR X (rIxL X.K) := by
  intro value slice pins s σ H x y v u Q I rx ry h hs
  obtain ⟨p, xs, i, z, rfl, rfl, hq, he, q⟩ := h
  cases rx
  obtain ⟨t, rfl⟩ := ry
  obtain ⟨its, r, pl, hz⟩ := I.list hq
  obtain ⟨j, h1, h2, h3, h4, h5⟩ := atI_get he
  obtain ⟨w, ew, rw'⟩ := r.get h2
  have hl := r.length
  have hn := line63
  have fin : EP X pins σ Q w s := ⟨z, H, I, rw', q⟩
  by_cases h0 : 0 ≤ i
  · have hj : i.toNat = j := by
      rw [seqIndex_of h0 h5] at h1
      exact Option.some.inj h1
    exact item_listR pl.isList h0 (by omega) (by rw [hj]; simpa using ew) fin hs
  · have hj : (i + (its.toArray.size : Int)).toNat = j := by
      rw [seqIndex_neg (by omega) h4] at h1
      rw [List.size_toArray, ← hl]
      exact Option.some.inj h1
    exact subscriptTail_builtinR (x := w) pl.isList.typeIs slot_list_getitem.lookup
      (wpAny_getItem_list_neg (Q := fun r s' => r = w ∧ EP X pins σ Q r s') pl.isList (by omega) (by rw [List.size_toArray] <;> omega) (by omega) (by rw [hj]; simpa using ew) ⟨rfl, fin⟩) hs
theorem ix_tup : IxR X (rIxT X.K) := by
  intro value slice pins s σ H x y v u Q I rx ry h hs
  obtain ⟨p, xs, i, z, rfl, rfl, hq, he, q⟩ := h
  cases rx
  obtain ⟨t, rfl⟩ := ry
  obtain ⟨its, r, pl, hz⟩ := I.tuple hq
  obtain ⟨j, h1, h2, h3, h4, h5⟩ := atI_get he
  obtain ⟨w, ew, rw'⟩ := r.get h2
  have hl := r.length
  have hn := line63
  have fin : EP X pins σ Q w s := ⟨z, H, I, rw', q⟩
  exact subscriptTail_builtinR (x := w) pl.typeIs slot_tuple_getitem.lookup
    (getItem_tuple (j := j) (Q := fun r s' => r = w ∧ EP X pins σ Q r s') pl (by omega) (by omega) (by rw [List.size_toArray, ← hl]; exact h1) (by simpa using ew) ⟨rfl, fin⟩) hs
/-! ### xs[i] = v, any sign -/
/-- the list's object behind a store -/
theorem mapSeq_set (its : List Value) (n j : Nat) (u : Value) : Obj.mapSeq (·.setIfInBounds j u) { cls := .type "list", data := .seq its.toArray n } = { cls := .type "list", data := .seq (its.set j u).toArray n } := by
  simp [Obj.mapSeq]
theorem Inv.lst {pins : List (Addr × Obj)} {σ : St} {H : Hp} {s : Shared} {p : Addr} {xs : List V} (I : Inv X pins σ H s) (h : H p = some (.lst xs)) :
    ∃ (its : List Value) (n : Nat), Vals xs its ∧ s.heap.get? p = some { cls := .type "list", data := .seq its.toArray n } ∧ xs.length ≤ sizeLine := by
  obtain ⟨z, its, n, r, e⟩ := I.hok p _ h
  exact ⟨its, n, r, e, z⟩
/-- the list at p is written by an update of its object -/
theorem Inv.lstUpd {pins : List (Addr × Obj)} {σ : St} {H : Hp} {s : Shared} {p : Addr} {xs ys : List V} {its its' : List Value} {n n' : Nat} {f : Obj → Obj} (I : Inv X pins σ H s) (h : H p = some (.lst xs))
    (ho : s.heap.get? p = some { cls := .type "list", data := .seq its.toArray n }) (hf : f { cls := .type "list", data := .seq its.toArray n } = { cls := .type "list", data := .seq its'.toArray n' }) (r : Vals ys its') (hz : ys.length ≤ sizeLine) (t : Nat) :
    Inv X pins σ (upd H p (.lst ys)) { s with heap := s.heap.update p f, toks := t } := by
  have e : (s.heap.update p f).get? p = some { cls := .type "list", data := .seq its'.toArray n' } := by
    rw [Heap.get?_update_self f ho (by rw [hf] <;> rfl), hf]
  refine I.write (x := p) (e := p) (by rw [h]; trivial) (.inl rfl) (fun b u hb q => (Heap.get?_update_other _ _ (Ne.symm hb)).trans q) ⟨_, e⟩ ?_
  exact ⟨hz, its', n', r, e⟩
def rSetL : V → V → V → Hp → (Hp → Prop) → Prop := fun o i v H Q => ∃ p xs k j, o = .ref p ∧ i = .int k ∧ H p = some (.lst xs) ∧ ixN xs.length k = some j ∧ Q (upd H p (.lst (xs.set j v)))
theorem set_list : PSet X rSetL := by
  intro pins s σ H o i v ov iv u Q I ro ri rv h
  obtain ⟨p, xs, k, j, rfl, rfl, hp, hj, q⟩ := h
  cases ro
  obtain ⟨t, rfl⟩ := ri
  obtain ⟨its, n, r, ho, hz⟩ := I.lst hp
  obtain ⟨h1, h2, h3, h4⟩ := ixN_seq hj
  have hl := r.length
  have hn := line63
  have I' : Inv X pins σ (upd H p (.lst (xs.set j v))) { s with heap := s.heap.update p (Obj.mapSeq (·.setIfInBounds j u)) } :=
    I.lstUpd hp ho (mapSeq_set its n j u) (r.set rv j) (by rw [List.length_set]; exact hz) s.toks
  by_cases h0 : 0 ≤ k
  · have hk : k.toNat = j := by
      rw [seqIndex_of h0 h4] at h1
      exact Option.some.inj h1
    exact PySem.W.ki_setAt ho h0 (by omega) (by rw [List.size_toArray, ← hl]; exact h4) (by rw [hk]; exact ⟨_, I', q⟩)
  · have hk : (k + (its.toArray.size : Int)).toNat = j := by
      rw [seqIndex_neg (by omega) h3] at h1
      rw [List.size_toArray, ← hl]
      exact Option.some.inj h1
    exact PySem.W.ki_setBack ho (by omega) (by rw [List.size_toArray, ← hl]; exact h3) (by omega) (by rw [hk]; exact ⟨_, I', q⟩)

/-! ### slices -/
theorem slice_bounds (lo hi : Option Int) (n : Nat) : (sliceBounds lo hi none n).1 = ((HT.sIx n 0 lo : Nat) : Int) ∧ (sliceBounds lo hi none n).2.1 = ((HT.sIx n n hi : Nat) : Int) ∧ (sliceBounds lo hi none n).2.2 = 1 := by
  refine ⟨?_, ?_, rfl⟩
  · cases lo with
    | none => simp [sliceBounds, HT.sIx]
    | some i =>
      simp only [sliceBounds, HT.sIx, Option.getD_none, show (1 : Int) > 0 by decide, if_true]
      by_cases h : i < 0
      · simp only [h, if_true] <;> omega
      · simp only [h, if_false] <;> omega
  · cases hi with
    | none => simp [sliceBounds, HT.sIx]
    | some i =>
      simp only [sliceBounds, HT.sIx, Option.getD_none, show (1 : Int) > 0 by decide, if_true]
      by_cases h : i < 0
      · simp only [h, if_true] <;> omega
      · simp only [h, if_false] <;> omega
theorem slicePick_cut (its : List Value) (lo hi : Option Int) : slicePick its.toArray lo hi none = ((its.drop (HT.sIx its.length 0 lo)).take (HT.sIx its.length its.length hi - HT.sIx its.length 0 lo)).toArray := by
  obtain ⟨h1, h2, h3⟩ := slice_bounds lo hi its.toArray.size
  unfold slicePick
  rw [h1, h2, h3]
  simp only [sliceRange_one, pick_run, List.size_toArray] <;> rfl
/-- xs[lo:hi] of a list: a new list -/
def rSlL (K : PySem.W.Frag) : V → Option Int → Option Int → Hp → VK → Prop := fun x lo hi H Q => ∃ a xs, x = .ref a ∧ SqL K H a xs ∧ ∀ p, H p = none → Q (.ref p) (upd H p (.lst (cutV xs lo hi)))
theorem sl_list : SlR X (rSlL X.K) := by
  intro pins s σ H x v vl vu lo hi sl Q I rx hs pl pu h
  obtain ⟨a, xs, rfl, hx, q⟩ := h
  cases rx
  obtain ⟨its, r, ht, hz⟩ := I.list hx
  have hlen := r.length
  refine ⟨"list", _, slot_list_getitem.lookup, ht.isList.typeIs, ?_⟩
  refine wpAny_getItem_list_slice ht.isList hs pl pu .none (by simp) ?_ (by rw [List.size_toArray] <;> omega)
  rw [slicePick_cut, ← hlen]
  refine ⟨.ref s.heap.objs.size, _, I.laid (t' := s.toks) (o := .lst (cutV xs lo hi)) (fun b ob q => Heap.get?_push_of_some _ q) (Nat.le_refl _) ?_, rfl, q _ (I.hok.fresh (Nat.le_refl _))⟩
  exact ⟨Nat.le_trans (cutV_length xs lo hi) hz, _, 0, (r.drop (HT.sIx xs.length 0 lo)).take (HT.sIx xs.length xs.length hi - HT.sIx xs.length 0 lo), Heap.get?_push_size _ rfl⟩

/-! ### in, not in: flat items -/
/-! ### len, list(x), tuple(x) of any list or tuple that is read -/
theorem call_len_seq : CallR X (.builtin "len") (fun xs H Q => ∃ p ys, xs = [.ref p] ∧ (SqL X.K H p ys ∨ SqT X.K H p ys) ∧ Q (.int ys.length) H) := by
  intro pins s σ H xs us Q I r h
  obtain ⟨p, ys, rfl, hq, q⟩ := h
  obtain ⟨u, rfl, rx⟩ := vals1 r
  cases rx
  have hn := line63
  rcases hq with hq | hq
  · obtain ⟨its, r', pl, hz⟩ := I.list hq
    have hlen := r'.length
    exact Calls.call_len_list pl.isList (by simp only [List.size_toArray] <;> omega) ⟨.int ys.length, H, I.tok _, ⟨s.toks + 1, by rw [List.size_toArray, hlen]⟩, q⟩
  · obtain ⟨its, r', pl, hz⟩ := I.tuple hq
    have hlen := r'.length
    exact len_tuple pl (by simp only [List.size_toArray] <;> omega) ⟨.int ys.length, H, I.tok _, ⟨s.toks + 1, by rw [List.size_toArray, hlen]⟩, q⟩
theorem call_tuple_of : CallR X (.type "tuple") (fun xs H Q => ∃ p ys, xs = [.ref p] ∧ ((SqL X.K H p ys ∧ ∀ l, H l = none → Q (.ref l) (upd H l (.tup ys))) ∨ (SqT X.K H p ys ∧ Q (.ref p) H))) := by
  intro pins s σ H xs us Q I r h
  obtain ⟨p, ys, rfl, h⟩ := h
  obtain ⟨u, rfl, rx⟩ := vals1 r
  cases rx
  rcases h with ⟨hq, q⟩ | ⟨hq, q⟩
  · obtain ⟨its, r', pl, hz⟩ := I.list hq
    have hlen := r'.length
    refine call_tuple_list pl.isList (fun h' kp => ?_) (by simp only [List.size_toArray] <;> omega)
    have I1 : Inv X pins σ H { s with heap := h' } := I.kept (t' := s.toks) kp
    have I2 : Inv X pins σ (upd H h'.objs.size (.tup ys)) { s with heap := h'.push { cls := .type "tuple", data := .seq its.toArray } } :=
      I1.laid (t' := s.toks) (fun b o e => Heap.get?_push_of_some _ e) (Nat.le_refl _) (show ObjOk X.prog X.w _ _ _ (.tup ys) from ⟨hz, its, r', IsTup.new _ _⟩)
    exact ⟨.ref h'.objs.size, _, I2, rfl, q _ (I1.hok.fresh (Nat.le_refl _))⟩
  · obtain ⟨its, r', pl, hz⟩ := I.tuple hq
    exact call_tuple_same pl ⟨.ref p, H, I, rfl, q⟩

/-! ### the call of a builtin's method: o.m(..) -/
/-- the value is of that builtin type -/
def tyV (K : PySem.W.Frag) (T : String) (x : V) (H : Hp) : Prop := match x with
  | .str _ => T = "str"
  | .int _ => T = "int"
  | .ref p => (T = "list" ∧ ∃ xs, SqL K H p xs) ∨ (T = "tuple" ∧ ∃ o, K.lookup p = some o ∧ o.cls = .type "tuple" ∧ o.dict = none) ∨
      (T = "dict" ∧ ((∃ kvs, H p = some (.dK kvs)) ∨ ∃ kvs, H p = some (.dT kvs))) ∨ (T = "set" ∧ ∃ S n, H p = some (.set S n))
  | _ => False
theorem tyV_is {pins : List (Addr × Obj)} {σ : St} {H : Hp} {s : Shared} {T : String} {x : V} {v : Value} (I : Inv X pins σ H s) (r : RelV x v) (ty : tyV X.K T x H) :
    s.TypeIs v T ∧ ∀ a, v = .ref a → ∃ ob, s.heap.get? a = some ob ∧ ob.dict = none := by
  cases x with
  | str z =>
    obtain ⟨t, rfl⟩ := r
    cases (show T = "str" from ty)
    exact ⟨typeIs_str s z t, fun _ e => nomatch e⟩
  | int i =>
    obtain ⟨t, rfl⟩ := r
    cases (show T = "int" from ty)
    exact ⟨typeIs_int s i t, fun _ e => nomatch e⟩
  | ref p =>
    cases r
    rcases ty with ⟨rfl, xs, hq⟩ | ⟨rfl, o, hk, hc, hd⟩ | ⟨rfl, hk⟩ | ⟨rfl, S, n, hk⟩
    · obtain ⟨its, _, pl, _⟩ := I.list hq
      refine ⟨pl.isList.typeIs, fun a e => ?_⟩
      cases e
      obtain ⟨o, n, e, c, hd, _⟩ := pl
      exact ⟨o, e, hd⟩
    · refine ⟨⟨o, I.kIn p o hk, hc⟩, fun a e => ?_⟩
      cases e
      exact ⟨o, I.kIn _ o hk, hd⟩
    · have z : ∃ o, s.heap.get? p = some o ∧ o.ExactDict := by
        rcases hk with ⟨kvs, hk⟩ | ⟨kvs, hk⟩
        · obtain ⟨_, _, _, _, o, _, _, e, ex, _⟩ := I.hok p _ hk
          exact ⟨o, e, ex⟩
        · obtain ⟨_, _, _, _, o, _, _, e, ex, _⟩ := I.hok p _ hk
          exact ⟨o, e, ex⟩
      obtain ⟨o, e, ex⟩ := z
      refine ⟨⟨o, e, ex.1⟩, fun a e2 => ?_⟩
      cases e2
      exact ⟨o, e, ex.2.1⟩
    · obtain ⟨o, _, _, _, e, ex, _⟩ := I.hok p _ hk
      refine ⟨⟨o, e, ex.1⟩, fun a e2 => ?_⟩
      cases e2
      exact ⟨o, e, ex.2.1⟩
  | _ => exact False.elim ty
def tBM (K : PySem.W.Frag) (T : String) (r : V → List V → Hp → VK → Prop) (to : TE) (t : TA) : TE := fun σ H Q => to σ H fun x H1 => tyV K T x H1 ∧ t σ H1 fun xs H2 => r x xs H2 Q
variable {o e : Expr} {es : List Expr} {to : TE} {t : TA} {name : Str} {apos cpos : Pos} {T id : String} {r : V → List V → Hp → VK → Prop}
theorem pe_bm (pa : PlainAttrs T) (slot : Slot T name id) (hty : typeOf (.builtin id) = pure (.type "method_descriptor")) (hm : MtR X id r) (ho : PE X o to) (ha : PA X (e :: es) t)
    (hbase : attributeBase o name X.env (eval o X.env) = eval o X.env := by rfl)
    (hfew : ((backTo cpos (starEach (e :: es) X.env)).all (fun x => !x.1) && (backToKw cpos (keywordEach [] X.env)).all (fun x => x.1.isSome)
      && decide ((e :: es).length + ([] : List Keyword).length + (if ([] : List Keyword).isEmpty then 0 else 1) < 30)) = true := by rfl)
    (hline : (apos.endLine == cpos.line) = true := by rfl) (hs : starEach (e :: es) X.env = (false, eval e X.env) :: starEach es X.env := by rfl) (hplain : (backTo cpos (starEach es X.env)).any (·.1) = false := by rfl) :
    PE X (.Call (.Attribute o name apos) (e :: es) [] cpos) (tBM X.K T r to t) := by
  intro pins s σ H Q I h
  refine wpAny_Call_method_late hbase hfew hline rfl (thn (ho pins s σ H _ I h) fun v s1 ⟨x, H1, I1, r1, ty, q1⟩ => ?_)
  obtain ⟨h1, h2⟩ := tyV_is I1 r1 ty
  refine ⟨T, id, pa, slot, hty, h1, h2, ?_⟩
  have hA := ha cpos pins s1 σ H1 _ I1 q1
  rw [hs] at hA ⊢
  refine Calls.callWith_builtin (by show (false || (backTo cpos (starEach es X.env)).any (·.1)) = false; rw [hplain] <;> rfl) (Calls.evalArgs_plain ?_)
  exact thn hA fun us s2 ⟨vs, H2, I2, r2, q2⟩ => hm pins s2 σ H2 x vs v us Q I2 r1 r2 q2
/- xs.append(e), list.index on a module's tuple .. are MtR facts of 06m -/
end
end L2

namespace L2
open PySem PySem.Spec PyProof.Rows

def MtM (X : Cx) (id : String) (r : V → List V → Hp → VK → Prop) : Prop :=
  ∀ (pins : List (Addr × Obj)) (s : Shared) (σ : St) (H : Hp) (x : V) (xs : List V) (v : Value) (us : List Value) (Q : VK), Inv X pins σ H s → RelV x v → Vals xs us → r x xs H Q →
    wpAny (model X.prog X.w) X.A (call (.builtin id) (v :: us)) (EP X pins σ Q) X.xe s

/-! ### lists of values -/
theorem Vals.one : ∀ {x : V} {us : List Value}, Vals [x] us → ∃ u, us = [u] ∧ RelV x u
  | _, _, .cons r .nil => ⟨_, rfl, r⟩
theorem Vals.rep {xs : List V} {us : List Value} (h : Vals xs us) : ∀ k : Nat, Vals (List.replicate k xs).flatten (List.replicate k us).flatten
  | 0 => .nil
  | k + 1 => by
    rw [List.replicate_succ, List.replicate_succ, List.flatten_cons, List.flatten_cons]
    exact Vals.append h (Vals.rep h k)
theorem foldl_rep (its : List Value) : ∀ (k : Nat) (acc : List Value),
    List.foldl (fun x1 x2 => x1 ++ x2) acc.toArray (List.replicate k its.toArray) = (acc ++ (List.replicate k its).flatten).toArray
  | 0, acc => by simp
  | k + 1, acc => by
    have e : acc.toArray ++ its.toArray = (acc ++ its).toArray := by simp
    have e2 : (acc ++ its) ++ (List.replicate k its).flatten = acc ++ (List.replicate (k + 1) its).flatten := by
      rw [List.replicate_succ, List.flatten_cons, List.append_assoc]
    rw [← e2, ← foldl_rep its k (acc ++ its), ← e, List.replicate_succ, List.foldl_cons]

section
variable {X : Cx} {pins : List (Addr × Obj)} {σ : St} {H : Hp} {s : Shared} {l b : Addr} {xs ys zs : List V}

/-! ### the two steps: a tracked list is rewritten, a new list is laid -/
theorem Inv.lset {its its' : List Value} {n : Nat} {f : Array Value → Array Value} {t' : Nat} (I : Inv X pins σ H s) (hH : H l = some (.lst xs))
    (e : s.heap.get? l = some { cls := .type "list", data := .seq its.toArray n }) (hf : f its.toArray = its'.toArray) (hv : Vals ys its') (hz : ys.length ≤ sizeLine) :
    Inv X pins σ (upd H l (.lst ys)) { s with heap := s.heap.update l (Obj.mapSeq f), toks := t' } := by
  have q := PySem.IsL.update e f
  rw [hf] at q
  refine I.write (x := l) (e := l) (by rw [hH]; exact trivial) (.inl rfl) (fun b' u hb hu => (Heap.get?_update_other s.heap (Obj.mapSeq f) (Ne.symm hb)).trans hu) ⟨_, q⟩ ?_
  exact ⟨hz, its', _, hv, q⟩
theorem Inv.lnew {its : List Value} {t' : Nat} (I : Inv X pins σ H s) (hv : Vals ys its) (hz : ys.length ≤ sizeLine) :
    Inv X pins σ (upd H s.heap.objs.size (.lst ys)) { s with heap := s.heap.push { cls := .type "list", data := .seq its.toArray }, toks := t' } :=
  I.laid (fun _ _ q => Heap.get?_push_of_some _ q) (Nat.le_refl _) ⟨hz, its, 0, hv, Heap.get?_push_size _ rfl⟩
theorem Inv.fresh (I : Inv X pins σ H s) : H s.heap.objs.size = none := I.hok.fresh (Nat.le_refl _)
theorem Inv.lstM (I : Inv X pins σ H s) (hH : H l = some (.lst xs)) : xs.length ≤ sizeLine ∧ ∃ (its : List Value) (n : Nat), Vals xs its ∧ xs.length = its.length ∧ s.heap.get? l = some { cls := .type "list", data := .seq its.toArray n } := by
  obtain ⟨z, its, n, r, e⟩ := I.hok l _ hH
  exact ⟨z, its, n, r, r.length, e⟩

theorem notLongL {n : Nat} (h : n ≤ sizeLine) : Builtin.List.listTooLong n = false := by
  unfold Builtin.List.listTooLong
  exact decide_eq_false (by omega)
end

section
variable {X : Cx}

/-! ### methods -/
def rAppend : V → List V → Hp → VK → Prop := fun x vs H Q => ∃ l xs y, x = .ref l ∧ vs = [y] ∧ H l = some (.lst xs) ∧ xs.length < sizeLine ∧ Q .non (upd H l (.lst (xs ++ [y])))
theorem mt_append : MtM X "list.append" rAppend := by
  intro pins s σ H x vs v us Q I rx rv h
  obtain ⟨l, xs, y, rfl, rfl, hH, hz, q⟩ := h
  cases rx
  obtain ⟨u, rfl, ru⟩ := rv.one
  obtain ⟨z, its, n, r, hl, e⟩ := I.lstM hH
  refine call_meets F.slot_list_append ⟨_, e, rfl⟩ F.entry_list_append (F.args_list_append_2 _ _) (PySem.list_append l its.toArray n u (by rw [List.size_toArray]; omega)) ⟨e, ?_⟩
  refine ⟨.non, _, I.lset (its' := its ++ [u]) hH e (by simp) (r.append (.cons ru .nil)) ?_, rfl, q⟩
  rw [List.length_append, List.length_singleton]
  omega

def rExtend : V → List V → Hp → VK → Prop := fun x vs H Q => ∃ l b xs zs, x = .ref l ∧ vs = [.ref b] ∧ H l = some (.lst xs) ∧ H b = some (.lst zs) ∧ xs.length + zs.length ≤ sizeLine ∧ Q .non (upd H l (.lst (xs ++ zs)))
theorem mt_extend : MtM X "list.extend" rExtend := by
  intro pins s σ H x vs v us Q I rx rv h
  obtain ⟨l, b, xs, zs, rfl, rfl, hH, hB, hz, q⟩ := h
  cases rx
  obtain ⟨u, rfl, ru⟩ := rv.one
  cases ru
  obtain ⟨z, its, n, r, hl, e⟩ := I.lstM hH
  obtain ⟨z2, its2, n2, r2, hl2, e2⟩ := I.lstM hB
  have hsz : its.toArray.size + its2.toArray.size ≤ sizeLine := by rw [List.size_toArray, List.size_toArray]; omega
  have hlong : ¬ (!its.toArray.isEmpty && Builtin.List.listTooLong (its.toArray.size + its2.toArray.size)) = true := by
    rw [notLongL hsz, Bool.and_false]
    exact Bool.false_ne_true
  refine call_meets F.slot_list_extend ⟨_, e, rfl⟩ F.entry_list_extend (F.args_list_extend_2 _ _)
    (AutoSeq1.list_extend_list_list_0 l its.toArray n b its2.toArray n2 hlong (by rw [List.size_toArray]; omega) (by omega)) ⟨e, e2, ?_⟩
  refine ⟨.non, _, I.lset (its' := its ++ its2) hH e (by simp) (r.append r2) ?_, rfl, q⟩
  rw [List.length_append]
  omega

/-! ### list + list, list += list, list * int -/
def rCat : R2 := fun x y H Q => ∃ l b xs zs, x = .ref l ∧ y = .ref b ∧ H l = some (.lst xs) ∧ H b = some (.lst zs) ∧ xs.length + zs.length ≤ sizeLine ∧ ∀ p, H p = none → Q (.ref p) (upd H p (.lst (xs ++ zs)))
theorem op_cat : OpR X (binaryOp .Add) rCat := by
  intro pins s σ H x y v u Q I rx ry h
  obtain ⟨l, b, xs, zs, rfl, rfl, hH, hB, hz, q⟩ := h
  cases rx
  cases ry
  obtain ⟨z, its, n, r, hl, e⟩ := I.lstM hH
  obtain ⟨z2, its2, n2, r2, hl2, e2⟩ := I.lstM hB
  refine PySem.P.add_list e e2 ?_ (by rw [List.size_toArray, List.size_toArray]; omega)
  have ea : its.toArray ++ its2.toArray = (its ++ its2).toArray := by simp
  rw [ea]
  exact ⟨.ref _, _, I.lnew (t' := s.toks) (r.append r2) (by rw [List.length_append]; omega), rfl, q _ I.fresh⟩
/-- a list times an int (a negative one is nothing) -/
def rRep : R2 := fun x y H Q => ∃ l k xs, x = .ref l ∧ y = .int k ∧ H l = some (.lst xs) ∧ -(2 ^ 63) ≤ k ∧ k < 2 ^ 63 ∧ xs.length * k.toNat ≤ sizeLine ∧
  ∀ p, H p = none → Q (.ref p) (upd H p (.lst (List.replicate k.toNat xs).flatten))
theorem len_rep {α : Type} (xs : List α) (k : Nat) : (List.replicate k xs).flatten.length = k * xs.length := by
  induction k with
  | zero => simp
  | succ k ih => rw [List.replicate_succ, List.flatten_cons, List.length_append, ih, Nat.succ_mul, Nat.add_comm]
theorem op_rep : OpR X (binaryOp .Mult) rRep := by
  intro pins s σ H x y v u Q I rx ry h
  obtain ⟨l, k, xs, rfl, rfl, hH, h1, h2, hz, q⟩ := h
  cases rx
  obtain ⟨t, rfl⟩ := ry
  obtain ⟨z, its, n, r, hl, e⟩ := I.lstM hH
  have hlen : its.toArray.size * k.toNat ≤ sizeLine := by rw [List.size_toArray, ← hl]; exact hz
  have hcap : ¬ its.toArray.size * k.toNat > (2 ^ 63 - 1) / 8 := by
    have : (sizeLine : Nat) ≤ (2 ^ 63 - 1) / 8 := by decide
    omega
  have hfit : ¬ (!Builtin.List.listFitsIndex k) = true := by
    rw [fitsIndex_both h1 h2]
    exact Bool.false_ne_true
  have hlong : ¬ Builtin.List.listTooLong (its.toArray.size * k.toNat) = true := by
    rw [notLongL hlen]
    exact Bool.false_ne_true
  have hnew : List.foldl (fun x1 x2 => x1 ++ x2) #[] (List.replicate (if its.toArray.isEmpty = true then 0 else k.toNat) its.toArray) = (List.replicate k.toNat its).flatten.toArray := by
    have f0 : ∀ m : Nat, List.foldl (fun x1 x2 => x1 ++ x2) #[] (List.replicate m its.toArray) = (List.replicate m its).flatten.toArray := fun m => by
      have := foldl_rep its m []
      rw [List.nil_append] at this
      exact this
    rw [f0]
    cases its with
    | nil => simp
    | cons a r' => rw [if_neg (by simp)]
  refine wpAny_binaryOp_repeat_ref (T := "list") (U := "int") (by decide) ⟨_, e, rfl⟩ (fun s' => typeIs_int s' k t) noFill_list_mul F.fills_int_mul F.slot_int_rmul repeat_list F.slot_int_index.lookup
    (call_meets F.slot_int_rmul (typeIs_int s k t) F.entry_int_rmul (F.args_int_rmul_2 _ _) (int___rmul___int_list k t l its.toArray n)
      ⟨e, rfl, ⟨_, e, rfl⟩, call_meets F.slot_list_mul ⟨_, e, rfl⟩ F.entry_list_mul (F.args_list_mul_2 _ _) (AutoListH.list___mul___list_int_3 l its.toArray n k t hfit hcap hlong) ⟨e, ?_⟩⟩)
  rw [hnew]
  exact ⟨.ref _, _, I.lnew (t' := s.toks) (r.rep k.toNat) (by rw [len_rep, Nat.mul_comm]; exact hz), rfl, q _ I.fresh⟩

/-! ### del xs[i] -/
end

/-! ### xs[a:b] = ys -/
section
variable {prog : Program} {w : World} {A : Around} {E : Value → Shared → Prop} {s : Shared}
end

section
variable {X : Cx}
end
end L2

namespace Att
open PySem PySem.W PySem.Calls PyProof.Rows

/-! ### the script -/
theorem ints_of_wellAll {P : Params} {h : Heap} : ∀ (ns : List Int) (vs : List Value), WellAll P h vs (ns.map WData.int) → IntsAre vs ns := by
  intro ns
  induction ns with
  | nil =>
    intro vs w
    rw [List.map_nil] at w
    cases w
    exact .nil
  | cons n ns ih =>
    intro vs w
    rw [List.map_cons] at w
    cases w with
    | cons a b =>
      cases a
      exact .cons _ _ (ih _ b)

theorem script_of {l : OpenLaw} {n : Nat} (hn : l.most = some n) {P : Params} {h : Heap} {args : List WData} {vals : List Value}
    (hpre : l.row.toRowW.claim.pre args = true) (hwl : WellAll P h vals args) :
    ∃ a vs ns, vals = [Value.ref a] ∧ args = [WData.list (ns.map WData.int)] ∧ h.get? a = some { cls := .type "list", data := .seq vs.toArray } ∧ IntsAre vs ns ∧ ns.length ≤ n := by
  have hsh : WShape.hasAll [] args [.list .int] = true := (pre_splitW hpre).1
  have hc : l.pre.holds [] { args := args } = true := (pre_splitW hpre).2
  obtain ⟨d, r, rfl, h1, h2⟩ := hasAllW_cons hsh
  obtain rfl := hasAllW_nil h2
  obtain ⟨xs, rfl, h3⟩ := hasW_list h1
  obtain ⟨ns, rfl⟩ := items_int h3
  have hlen : ns.length ≤ n := by
    unfold OpenLaw.pre at hc
    have h4 : (WTm.not (.lt (.lit (.int (n : Int))) (.len (.arg 0)))).holds [] { args := [.list (ns.map .int)] } = true := by
      have h4 := (holds_andW hc).1
      rw [hn] at h4
      exact h4
    have h5 := condW_of h4 (w_not (w_lt w_lit (w_len_list (w_arg rfl))))
    rw [List.length_map] at h5
    refine Nat.le_of_not_lt fun q => ?_
    have q' : (n : Int) < ((ns.length : Nat) : Int) := by omega
    first
      | (rw [decide_eq_true q'] at h5; exact absurd h5 (by decide))
      | (simp at h5; omega)
  cases hwl with
  | cons w1 w2 =>
    cases w2
    cases w1 with
    | list ho hall => exact ⟨_, _, ns, rfl, rfl, ho, ints_of_wellAll ns _ hall, hlen⟩

theorem post_true (l : OpenLaw) (args : List WData) : l.row.toRowW.claim.post args (.bool true) args = true :=
  postW_of (r := l.row.toRowW) (X := (true == true))
    (show WShape.has [] (.bool true) .bool = true by first | rfl | decide | simp [WShape.has, WShape.arms, WShape.armsAll])
    (show (WTm.eq .res (.lit (.bool true))).value [] { args := args, res := some (.bool true), after := args } = some (.bool (true == true)) from w_eq_bool (w_res rfl) w_lit) rfl

/-! ### the attachment: holds_open's last premise (the goal 'hc' behind k_head) from a wpAny of the law's body -/
/-- the same from a codeAny of the CALL (for a layer whose function contracts speak of calls) -/
theorem attach_call {l : OpenLaw} {n : Nat} {q : Program} {loose : List Str} {XP : (Str → Option Value) → Heap → Prop} {YP : World → Heap → Prop} {d : DefRec}
    (hn : l.most = some n) (hdf : d.params.defaults = [])
    (call : ∀ (w : World) (s₀ s₁ : Shared) (mg mb : Str → Option Value) (fa : Addr) (o : Obj) (pm cd doc : Value) (a : Addr) (vs : List Value) (ns : List Int),
      Ground q loose [] XP w s₀ mg mb s₁.heap → YP w s₁.heap →
      s₁.heap.get? fa = some o → o.data = .func (docDef d.name d.params d.body d.scope pm cd doc) → s₁.heap.CodeRec cd d.name → mg d.name = some (.ref fa) →
      s₁.heap.get? a = some { cls := .type "list", data := .seq vs.toArray } → IntsAre vs ns → ns.length ≤ n → s₁.gens = #[] →
      codeAny (model l.prog w) callerA (.call (.ref fa) ⟨[.ref a], []⟩) (fun r s' => r = .ok (.ret (.bool true)) ∧ OldK s₁.heap s'.heap ∧ s'.os = s₁.os ∧ AllBare s'.gens) s₁) :
    WalkO q loose XP YP l.row.toRowW d [] (fun f vs => PySem.call f vs) := by
  intro w s₀ s₁ mg mb G Y fa o pm cd doc dV kV ho hd hcd hD hmg hg args vals as hpre hlay hrd hwl hlo
  obtain rfl : dV = .none := Dflts.none hD hdf
  obtain rfl : kV = .none := Dflts.noKw hD
  obtain ⟨a, vs, ns, rfl, rfl, hobj, hints, hlen⟩ := script_of hn hpre hwl
  refine enter_call (codeAny_mono (call w s₀ s₁ mg mb fa o pm cd doc a vs ns G Y ho (fd_plain hd) hcd hmg hobj hints hlen hg) fun r s' hq => ?_)
  obtain ⟨rfl, h2, h3, h4⟩ := hq
  exact ⟨.inl ⟨.bool true, .bool true, [], rfl, fun _ => rfl, .bool true, post_true l _, fun _ => ⟨List.Pairwise.nil, fun _ hm => (nomatch hm)⟩⟩, h2, h3, h4⟩

/-! ### rules over ANY heap (no ledger) from facts about the written part K: the library's own take a ledger (News) for what they write -/
section
variable {prog : Program} {w : World} {A : Around} {E : Value → Shared → Prop} {s : Shared} {K : Frag}

/-! the whole heap as the ledger: makes every rule that writes through a ledger a rule over any heap -/
def ledger (h : Heap) (L d : Addr) : List (Addr × Obj) := (List.range h.objs.size).filterMap fun a => if a = L ∨ a = d then none else (h.get? a).map fun o => (a, o)
end
end Att

namespace L2
open PySem PySem.Spec PyProof.Rows

theorem vals_ints : ∀ {vs : List Value} {ns : List Int}, IntsAre vs ns → Vals (ns.map V.int) vs
  | _, _, .nil => .nil
  | _, _, .cons n t h => .cons ⟨t, rfl⟩ (vals_ints h)

/-- nothing is tracked but the script, known to the object (or it is an object of the module) -/
def Only (H : Hp) : Prop := ∀ b, H b = none ∨ ∃ o xs, H b = some (.frz o (.lst xs))

/-- THE HEAD: the law's promise, at the heap behind the top. F, the promise of the law's def, may use that base is part of the heap (so K.In base, base.Ns mainGlobals mg stand in Mod) -/
theorem law_call {P : Program} {w : World} {K : PySem.W.Frag} {mg mb : Str → Option Value} {CX : CXT} {k : Nat} {fa a : Addr} {fd : FuncData} {x : Str} {sp : Sp} {s₁ : Shared} {vs : List Value} {ns : List Int}
    (KX : K.In s₁.heap) (hns : s₁.heap.Ns mainGlobals mg) (hb : s₁.heap.Ns builtinsNs mb) (hbb : ∀ x : Str, x ≠ "__name__" → mb x = bootBuiltins x) (hlim : s₁.heap.NoLimit) (hg : s₁.gens = #[])
    (ha : s₁.heap.get? a = some { cls := .type "list", data := .seq vs.toArray }) (hi : IntsAre vs ns) (hl : ns.length ≤ sizeLine) (hr : Room k callerA)
    (F : ∀ base : Heap, K.In base → base.Ns mainGlobals mg → FnOk P w K mg base CX k fa fd [x] sp) (hbind : ∀ (s : Shared) (u : Value), BindsTo s fd ⟨[u], []⟩ [(x, u)])
    (hsp : ∀ H : Hp, Only H → SqL K H a (ns.map V.int) → sp [.ref a] H (fun v _ => v = .bl true) fun _ _ _ => False)
    (hCX : ∀ H e s', CX [] H s₁ (fun _ _ _ => False) e s' → False) :
    codeAny (model P w) callerA (.call (.ref fa) ⟨[.ref a], []⟩) (fun r s' => r = .ok (.ret (.bool true)) ∧ OldK s₁.heap s'.heap ∧ s'.os = s₁.os ∧ AllBare s'.gens) s₁ := by
  have rv := vals_ints hi
  have lenV := hi.length
  -- from an abstract heap in which nothing but the script may be tracked
  have core : ∀ H : Hp, Only H → SqL K H a (ns.map V.int) → HOk P w H s₁.heap → (∀ b, H b ≠ none → b = a) → (H a ≠ none → K.lookup a = none) →
      codeAny (model P w) callerA (.call (.ref fa) ⟨[.ref a], []⟩) (fun r s' => r = .ok (.ret (.bool true)) ∧ OldK s₁.heap s'.heap ∧ s'.os = s₁.os ∧ AllBare s'.gens) s₁ := by
    intro H hO hS hok hA hK
    have base_of : ∀ {b : Addr} {o : Obj}, s₁.heap.get? b = some o → H b = none → (hidT s₁.heap H).get? b = some o := fun e n => hidT_get e n
    have noA : ∀ {b : Addr} {o : Obj} {es : Array DictEntry} {ep : Nat}, s₁.heap.get? b = some o → o.data = .dict es ep → H b = none := fun {b o es ep} e d => by
      cases q : H b with
      | none => rfl
      | some u =>
        have e' : b = a := hA b (by rw [q]; simp)
        subst e'
        rw [ha] at e; cases e
        have d' : Data.seq vs.toArray _ = Data.dict es ep := d
        cases d'
    have nsK : ∀ {b : Addr} {m : Str → Option Value}, s₁.heap.Ns b m → (hidT s₁.heap H).Ns b m := fun {b m} ⟨o, es, ep, e, d, r⟩ => ⟨o, es, ep, base_of e (noA e d), d, r⟩
    have hKb : K.In (hidT s₁.heap H) := fun b o e => base_of (KX b o e) (by
      cases q : H b with
      | none => rfl
      | some u =>
        have e' : b = a := hA b (by rw [q]; simp)
        subst e'
        rw [hK (by rw [q]; simp)] at e; cases e)
    have hM : Mod K mg (hidT s₁.heap H) := ⟨hKb, nsK hns, ⟨mb, nsK hb, hbb⟩, let ⟨mc, h1, h2⟩ := hlim; ⟨mc, nsK h1, h2⟩⟩
    have e0 : Env0 P w K mg (hidT s₁.heap H) callerA [] s₁ H := ⟨rfl, hM, fun b o e => of_hidT e, Nat.le_of_eq (hidT_size _ _), trivial, fun b hb => absurd (show b ∈ ([] : List Addr) from hb) (by simp), hok, .of_eq hg⟩
    refine codeAny_mono ((F _ hKb (nsK hns)).run callerA [] s₁ H ⟨[.ref a], []⟩ [.ref a] [.ref a] _ _ hr e0 (hbind s₁ (.ref a)) (.cons rfl .nil) (hsp H hO hS)) fun r s' h => ?_
    cases r with
    | error e => exact (hCX H e s' h).elim
    | ok fl =>
      cases fl with
      | next => exact False.elim h
      | brk => exact False.elim h
      | cont => exact False.elim h
      | ret u =>
        obtain ⟨v, H', os, bare, un, hok', r', q⟩ := h
        have q' : v = .bl true := q
        subst q'
        obtain rfl : u = Value.bool true := r'
        refine ⟨rfl, OldK.of_keep fun b o e => ?_, os, bare⟩
        cases q : H b with
        | none => exact un.keep b o e q (by intro z; exact absurd (show b ∈ ([] : List Addr) from z) (by simp)) (by simp)
        | some u =>
          rcases hO b with z | ⟨ob, xs, z⟩
          · rw [q] at z; cases z
          · have z2 := un.frzs b ob _ z
            obtain ⟨e1, _⟩ := hok b _ z
            obtain ⟨e2, _⟩ := hok' b _ z2
            rw [e] at e1; cases e1
            exact e2
  cases hk : K.lookup a with
  | some o =>
    -- the script is one of the module's own objects
    have e := KX a o hk
    rw [ha] at e
    cases e
    refine core (fun _ => none) (fun _ => .inl rfl) (.inr ⟨_, vs.toArray, _, hk, rfl, rfl, rfl, by rw [List.size_toArray, lenV]; exact hl, by simpa using rv⟩) (fun b u z => by have z' : (none : Option HO) = some u := z; cases z') (fun b z => absurd rfl z) fun z => absurd rfl z
  | none =>
    refine core (fun b => if b = a then some (.frz { cls := .type "list", data := .seq vs.toArray } (.lst (ns.map V.int))) else none) (fun b => ?_) (.inl (.inr ⟨{ cls := .type "list", data := .seq vs.toArray }, if_pos rfl⟩)) (fun b u z => ?_) (fun b z => ?_) fun _ => hk
    · by_cases hb : b = a
      · exact .inr ⟨_, _, if_pos hb⟩
      · exact .inl (if_neg hb)
    · by_cases hb : b = a
      · have z' := (if_pos hb).symm.trans z
        cases z'
        subst hb
        exact ⟨ha, by rw [List.length_map]; exact hl, vs, _, rv, ha⟩
      · have z' := (if_neg hb).symm.trans z
        cases z'
    · by_cases hb : b = a
      · exact hb
      · exact absurd (if_neg hb) z
end L2

namespace L2
open PySem PySem.Spec PyProof.Rows

/-- the goal that k_head leaves (case hc), from the law's promise. F gives the function object fd (K's own) once, then the promise over every base -/
theorem walk_of {l : PySem.W.OpenLaw} {n k : Nat} {q : Program} {loose : List Str} {XP : (Str → Option Value) → Heap → Prop} {YP : World → Heap → Prop} {d : DefRec} {K : Params → PySem.W.Frag} {CX : World → CXT} {sp : World → Sp} {x : Str}
    (hn : l.most = some n) (hn2 : n ≤ sizeLine) (hdf : d.params.defaults = []) (hr : Room k callerA)
    (hY : ∀ (w : World) (h : Heap), YP w h → (K w.params).In h)
    (F : ∀ (w : World) (mg : Str → Option Value) (fa : Addr) (h : Heap), (K w.params).In h → h.Ns mainGlobals mg → mg d.name = some (.ref fa) →
      ∃ fd : FuncData, (∀ (s : Shared) (u : Value), BindsTo s fd ⟨[u], []⟩ [(x, u)]) ∧
        ∀ base : Heap, (K w.params).In base → base.Ns mainGlobals mg → FnOk l.prog w (K w.params) mg base (CX w) k fa fd [x] (sp w))
    (hsp : ∀ (w : World) (H : Hp) (a : Addr) (ns : List Int), ns.length ≤ n → Only H → SqL (K w.params) H a (ns.map V.int) → sp w [.ref a] H (fun v _ => v = .bl true) fun _ _ _ => False)
    (hCX : ∀ (w : World) (H : Hp) (s : Shared) (e : Value) (s' : Shared), CX w [] H s (fun _ _ _ => False) e s' → False) :
    PySem.W.WalkO q loose XP YP l.row.toRowW d [] (fun f vs => PySem.call f vs) := by
  refine Att.attach_call hn hdf fun w s₀ s₁ mg mb fa o pm cd doc a vs ns G Y ho hd hcd hmg hobj hints hlen hg => ?_
  have KX := hY w _ Y
  obtain ⟨fd, hb, hF⟩ := F w mg fa _ KX G.T.g hmg
  exact law_call KX G.T.g G.T.b G.T.builtins G.T.nolimit hg hobj hints (Nat.le_trans hlen hn2) hr hF hb (fun H hO hS => hsp w H a ns hlen hO hS) fun H e s' => hCX w H s₁ e s'
end L2

/-! SHORT WORDS over the layer: a def of the text, its body, what a loop and a test want. -/
namespace L2
open PySem PySem.Spec PyProof.Rows

/-! ### the text by places -/
def defArgs (s : Stmt) : Arguments := match s with
  | .FunctionDef _ a _ _ _ _ _ _ _ _ => a
  | _ => { posonlyargs := [], args := [], vararg := none, kwonlyargs := [], kw_defaults := [], kwarg := none, defaults := [] }
def defBody (s : Stmt) : List Stmt := match s with
  | .FunctionDef _ _ b _ _ _ _ _ _ _ => b
  | _ => []
def defScope (s : Stmt) : Scope := match s with
  | .FunctionDef _ _ _ _ _ _ sc _ _ _ => sc
  | _ => { kind := .function, names := [], isGenerator := false, isCoroutine := false }

/-! ### no exception leaves a def -/
abbrev CX0 : CXT := fun _ _ _ _ _ _ => False
abbrev E0 : XK := fun _ _ _ => False
theorem pass0 {X : Cx} : Passes CX0 X E0 := fun _ _ _ _ _ _ _ h => h.elim

/-! ### a def (or method) of the text as it stands behind the top -/
structure Fun (K : PySem.W.Frag) (x qual : Str) (st : Stmt) (f : Addr) (fd : FuncData) : Prop where
  ex : ∃ (oc : Value) (od : Option Addr) (kV doc pm : Value) (an : Option Addr) (cdv ct : Value) (osl : Array (Option Value)),
    fd = PySem.W.fnOf x qual (defArgs st) (defBody st) (defScope st) .none kV doc pm an cdv ct ∧ K.lookup f = some ⟨oc, od, .func fd, osl⟩ ∧ PySem.W.codeIn K cdv qual = true
  kp : PySem.W.keepIn K (.ref f) = true
section
variable {P : Program} {w : World} {K : PySem.W.Frag} {mg : Str → Option Value} {base : Heap}
/-- THE RULE for a def: its body as a term of rules, and the reading of that term -/
theorem Fun.ok {x qual : Str} {st : Stmt} {f : Addr} {fd : FuncData} {N ps : List Str} {k : Nat} {sp : Sp} (F : Fun K x qual st f fd) (S : FnScope N ps (defScope st)) (len : ∀ vs H Q E, sp vs H Q E → vs.length = ps.length)
    (hbody : ∀ (cdv : Value) (A : Around) (outer : List Env) (s : Shared) (H : Hp) (vs : List V) (Q : VK) (E : XK), Room k (A.deeper (envOfC qual (defScope st) s.heap.objs.size f cdv)) → sp vs H Q E →
      ∃ t, PSs (cxOf CX0 P w K mg base N qual (defScope st) f cdv A outer s H E).nox (defBody st) t ∧ t { nx := fun _ H' => Q .non H', rt := Q } (start N vs) H) : FnOk P w K mg base CX0 (k + 1) f fd ps sp := by
  obtain ⟨oc, od, kV, doc, pm, an, cdv, ct, osl, rfl, lk, hcd⟩ := F.ex
  refine fn_of lk hcd S len fun A outer s H vs Q E hr hsp => ?_
  obtain ⟨t, h, q⟩ := hbody cdv A outer s H vs Q E hr hsp
  exact ⟨t, h.nox, q⟩
/-- how its arguments bind (no defaults): h is «fun _ _ _ _ _ _ us hl => match us, hl with | [_, _], _ => rfl», one _ a parameter -/
theorem Fun.binds {x qual : Str} {st : Stmt} {f : Addr} {fd : FuncData} {ps : List Str} (F : Fun K x qual st f fd)
    (h : ∀ (kV doc pm : Value) (an : Option Addr) (cdv ct : Value) (us : List Value), us.length = ps.length → bindArgs (PySem.W.fnOf x qual (defArgs st) (defBody st) (defScope st) .none kV doc pm an cdv ct) ⟨us, []⟩ = pure (ps.zip us)) : Binds K fd ps [] := by
  obtain ⟨oc, od, kV, doc, pm, an, cdv, ct, osl, rfl, lk, hcd⟩ := F.ex
  exact .all (h kV doc pm an cdv ct)
theorem fun_mk {x qual : Str} {st : Stmt} {f : Addr} {oc : Value} {od an : Option Addr} {osl : Array (Option Value)} {kV doc pm cdv ct : Value} (l : K.lookup f = some ⟨oc, od, .func (PySem.W.fnOf x qual (defArgs st) (defBody st) (defScope st) .none kV doc pm an cdv ct), osl⟩)
    (c : PySem.W.codeIn K cdv qual = true) (k : PySem.W.keepIn K (.ref f) = true) : Fun K x qual st f (PySem.W.fnOf x qual (defArgs st) (defBody st) (defScope st) .none kV doc pm an cdv ct) := ⟨⟨oc, od, kV, doc, pm, an, cdv, ct, osl, rfl, l, c⟩, k⟩
end
theorem hu_of {A : Around} {k : Nat} (hr : Room k A) : A.units + 1 < cLine := Nat.lt_of_le_of_lt (Nat.add_le_add_left (by decide : 1 ≤ 64) _) hr.units
theorem small1000 {n : Nat} (h : n ≤ 1000) : n < sizeLine := Nat.lt_of_le_of_lt h (by decide)

/-! ### expressions in short: the name that stands in the i-th slot -/
section
variable {X : Cx}
theorem pv (i : Nat) {x : Str} {pos : Pos} (hN : X.N[i]? = some x := by rfl) (hv : Vis X.env.scope x := by first | exact Or.inl rfl | exact Or.inr (Or.inl rfl) | exact Or.inr (Or.inr rfl)) (hd : (x == ("__debug__" : Str)) = false := by decide)
    (hcd : (x == ("__classdict__" : Str)) = false := by decide) : PE X (.Name x pos) (tVar i) := pe_var hN hv hd hcd
end

/-! ### tests -/
theorem iteF {A B : Prop} (h : B) : if false = true then A else B := by
  rw [if_neg Bool.false_ne_true]
  exact h
theorem iteT {A B : Prop} (h : A) : if true = true then A else B := by
  rw [if_pos rfl]
  exact h
/-! ### heaps -/
/-- all that was tracked is as it was -/
def Same (H H' : Hp) : Prop := ∀ b o, H b = some o → H' b = some o
theorem Same.refl (H : Hp) : Same H H := fun _ _ h => h
theorem Same.trans {H H1 H2 : Hp} (a : Same H H1) (b : Same H1 H2) : Same H H2 := fun c o h => b c o (a c o h)
theorem Same.free {H H' : Hp} (e : Same H H') {l : Addr} (h : H' l = Option.none) : H l = Option.none := by
  cases q : H l with
  | none => rfl
  | some o =>
    rw [e l o q] at h
    cases h
end L2

set_option maxHeartbeats 4000000
namespace L2
open PySem PySem.Spec PyProof.Rows
/-! ### lists of pairs as tables -/
section
variable {κ : Type} [DecidableEq κ]
def valV (kvs : List (κ × V)) (k : κ) : Option V := (kvs.find? fun kv => decide (kv.1 = k)).map (·.2)
/-- in its place, or at the end -/
def putK (kvs : List (κ × V)) (k : κ) (v : V) : List (κ × V) :=
  if (kvs.any fun kv => decide (kv.1 = k)) = true then kvs.map (fun kv => if kv.1 = k then (kv.1, v) else kv) else kvs ++ [(k, v)]
theorem valV_pos {p : κ × V} {r : List (κ × V)} {k : κ} (e : p.1 = k) : valV (p :: r) k = some p.2 := by simp [valV, List.find?_cons, e]
theorem valV_neg {p : κ × V} {r : List (κ × V)} {k : κ} (e : ¬ p.1 = k) : valV (p :: r) k = valV r k := by simp [valV, List.find?_cons, e]
theorem valV_any (k : κ) : ∀ kvs : List (κ × V), (kvs.any fun kv => decide (kv.1 = k)) = (valV kvs k).isSome
  | [] => rfl
  | p :: r => by
    rw [List.any_cons]
    by_cases e : p.1 = k
    · simp only [valV_pos e, decide_eq_true e, Bool.true_or, Option.isSome_some]
    · rw [valV_neg e, decide_eq_false e, Bool.false_or]; exact valV_any k r
theorem length_putK (kvs : List (κ × V)) (k : κ) (v : V) : (putK kvs k v).length ≤ kvs.length + 1 := by
  unfold putK
  split
  · rw [List.length_map]; omega
  · rw [List.length_append, List.length_cons, List.length_nil]; omega
theorem putK_new {kvs : List (κ × V)} {k : κ} (v : V) (h : valV kvs k = none) : putK kvs k v = kvs ++ [(k, v)] := by
  unfold putK
  rw [valV_any, h]
  exact if_neg (by decide)

theorem RelO.isSome_eq {o : Option V} {u : Option Value} (r : RelO o u) : o.isSome = u.isSome := by
  cases o with
  | none => cases u with
    | none => rfl
    | some _ => exact (show False from r).elim
  | some _ => cases u with
    | none => exact (show False from r).elim
    | some _ => rfl
theorem RelO.getD {o : Option V} {u : Option Value} {d : V} {d' : Value} (r : RelO o u) (rd : RelV d d') : RelV (o.getD d) (u.getD d') := by
  cases o with
  | none => cases u with
    | none => exact rd
    | some _ => exact (show False from r).elim
  | some _ => cases u with
    | none => exact (show False from r).elim
    | some _ => exact r

/-- raw tables of the same keys -/
theorem KV.val {kvs : List (κ × V)} {vs : List (κ × Value)} (r : KV kvs vs) (k : κ) : RelO (valV kvs k) (valueAt vs k) := by
  unfold KV at r
  induction r with
  | nil => exact True.intro
  | @cons p q ps qs h t ih =>
    obtain ⟨h1, h2⟩ := h
    by_cases e : p.1 = k
    · have e' : q.1 = k := h1.symm.trans e
      have b : valueAt (q :: qs) k = some q.2 := by simp [valueAt, List.find?_cons, e']
      rw [valV_pos e, b]; exact h2
    · have e' : ¬ q.1 = k := fun z => e (h1.trans z)
      have b : valueAt (q :: qs) k = valueAt qs k := by simp [valueAt, List.find?_cons, e']
      rw [valV_neg e, b]; exact ih
theorem KV.any {kvs : List (κ × V)} {vs : List (κ × Value)} (r : KV kvs vs) (k : κ) : (kvs.any fun kv => decide (kv.1 = k)) = vs.any fun kv => decide (kv.1 = k) := by
  unfold KV at r
  induction r with
  | nil => rfl
  | cons h t ih => rw [List.any_cons, List.any_cons, ih, h.1]
theorem KV.repl {kvs : List (κ × V)} {vs : List (κ × Value)} (r : KV kvs vs) (k : κ) {y : V} {u : Value} (ry : RelV y u) :
    KV (kvs.map fun kv => if kv.1 = k then (kv.1, y) else kv) (vs.map fun kv => if kv.1 = k then (kv.1, u) else kv) := by
  unfold KV at r ⊢
  induction r with
  | nil => exact .nil
  | @cons p q ps qs h t ih =>
    rw [List.map_cons, List.map_cons]
    refine .cons ?_ ih
    obtain ⟨h1, h2⟩ := h
    by_cases e : p.1 = k
    · rw [if_pos e, if_pos (h1.symm.trans e)]; exact ⟨h1, ry⟩
    · rw [if_neg e, if_neg (fun z => e (h1.trans z))]; exact ⟨h1, h2⟩
theorem KV.put {kvs : List (κ × V)} {vs : List (κ × Value)} (r : KV kvs vs) (k : κ) {y : V} {u : Value} (ry : RelV y u) : KV (putK kvs k y) (stored vs k u) := by
  unfold putK stored
  rw [r.any k]
  by_cases e : (vs.any fun kv => decide (kv.1 = k)) = true
  · rw [if_pos e, if_pos e]; exact r.repl k ry
  · rw [if_neg e, if_neg e]; exact Paired.snoc r ⟨rfl, ry⟩
theorem KV.length {kvs : List (κ × V)} {vs : List (κ × Value)} (r : KV kvs vs) : kvs.length = vs.length := Paired.length r
end


/-! ### a tracked dict, its keys ints and texts or tuples of these -/
theorem kV_is {P : Program} {w : World} {k : Key} {u : Value} (r : RelV (kV k) u) : (mixKind P w).is k u = true := by
  cases k with
  | inl i => obtain ⟨t, e⟩ := (show ∃ t, u = Value.int i t from r); subst e; exact mixKind_int P w i t
  | inr x => obtain ⟨t, e⟩ := (show ∃ t, u = Value.str x t from r); subst e; exact mixKind_str P w x t
theorem items_are {P : Program} {w : World} : ∀ {ks : List Key} {us : List Value}, Vals (ks.map kV) us → ItemsAre (mixKind P w) ks us
  | [], _, r => by rw [List.map_nil] at r; cases r; exact .nil
  | k :: ks, _, r => by
    rw [List.map_cons] at r
    cases r with
    | cons h t => exact .cons (kV_is h) (items_are t)

/-- raw entries of a dict with tuple keys -/
abbrev KT (H : Hp) : List (List Key × V) → List (List Key × Addr × Value) → Prop := Paired fun p q => p.1 = q.1 ∧ H q.2.1 = some (.tup (p.1.map kV)) ∧ RelV p.2 q.2.2
theorem KT.val {H : Hp} {kvs : List (List Key × V)} {xs : List (List Key × Addr × Value)} (r : KT H kvs xs) (k : List Key) : RelO (valV kvs k) ((atKey xs k).map (·.2)) := by
  induction r with
  | nil => exact True.intro
  | @cons p q ps qs h t ih =>
    obtain ⟨h1, _, h2⟩ := h
    by_cases e : p.1 = k
    · have e' : q.1 = k := h1.symm.trans e
      have b : atKey (q :: qs) k = some q.2 := by simp [atKey, List.find?_cons, e']
      rw [valV_pos e, b]; exact h2
    · have e' : ¬ q.1 = k := fun z => e (h1.trans z)
      have b : atKey (q :: qs) k = atKey qs k := by simp [atKey, List.find?_cons, e']
      rw [valV_neg e, b]; exact ih
theorem KT.repl {H : Hp} {kvs : List (List Key × V)} {xs : List (List Key × Addr × Value)} (r : KT H kvs xs) (k : List Key) {y : V} {u : Value} (ry : RelV y u) :
    KT H (kvs.map fun kv => if kv.1 = k then (kv.1, y) else kv) (xs.map (putAt k u)) := by
  induction r with
  | nil => exact .nil
  | @cons p q ps qs h t ih =>
    rw [List.map_cons, List.map_cons]
    refine .cons ?_ ih
    obtain ⟨h1, h2, h3⟩ := h
    unfold putAt
    by_cases e : p.1 = k
    · rw [if_pos e, if_pos (h1.symm.trans e)]; exact ⟨h1, h2, ry⟩
    · rw [if_neg e, if_neg (fun z => e (h1.trans z))]; exact ⟨h1, h2, h3⟩
theorem KT.put {H : Hp} {kvs : List (List Key × V)} {xs : List (List Key × Addr × Value)} (r : KT H kvs xs) (k : List Key) {b : Addr} {y : V} {u : Value} (hb : H b = some (.tup (k.map kV))) (ry : RelV y u) :
    KT H (putK kvs k y) (storedH xs k b u) := by
  have e : (kvs.any fun kv => decide (kv.1 = k)) = (atKey xs k).isSome := by
    rw [valV_any, (r.val k).isSome_eq, Option.isSome_map]
  unfold putK storedH
  rw [e]
  by_cases q : (atKey xs k).isSome = true
  · rw [if_pos q, if_pos q]; exact r.repl k ry
  · rw [if_neg q, if_neg q]; exact Paired.snoc r ⟨rfl, hb, ry⟩
theorem KT.keeps {H H' : Hp} {kvs : List (List Key × V)} {xs : List (List Key × Addr × Value)} (r : KT H kvs xs) (ht : ∀ b ys, H b = some (.tup ys) → H' b = some (.tup ys)) : KT H' kvs xs :=
  Paired.mapP r fun _ _ z => ⟨z.1, ht _ _ z.2.1, z.2.2⟩

section
variable {P : Program} {w : World} {H : Hp} {h : Heap} {a : Addr}
theorem rd_of {u : HO} (ok : HOk P w H h) (e : Rd H a u) : ObjOk P w H h a u := e.ok ok
theorem dk_rd {kvs : List (Key × V)} (ok : HOk P w H h) (e : Rd H a (.dK kvs)) : kvs.length ≤ sizeLine ∧ (a == sysModules) = false ∧ ∃ vs, KV kvs vs ∧ h.DictOf (mixKind P w) a vs :=
  show ObjOk P w H h a (.dK kvs) from rd_of ok e
theorem dk_of {kvs : List (Key × V)} (ok : HOk P w H h) (e : H a = some (.dK kvs)) : kvs.length ≤ sizeLine ∧ (a == sysModules) = false ∧ ∃ vs, KV kvs vs ∧ h.DictOf (mixKind P w) a vs := dk_rd ok (.inl e)
/-- a tracked tuple of ints and texts is a key -/
theorem key_of {ks : List Key} (ok : HOk P w H h) (e : H a = some (.tup (ks.map kV))) : (tupleKind (mixKind P w)).is h ks a := by
  obtain ⟨_, its, r, o, h1, h2, n, h3⟩ := (show ObjOk P w H h a (.tup (ks.map kV)) from ok a _ e)
  exact ⟨o, its.toArray, n, h1, h2, h3, by simpa using items_are r⟩
theorem dt_rd {kvs : List (List Key × V)} (ok : HOk P w H h) (e : Rd H a (.dT kvs)) : kvs.length ≤ sizeLine ∧ (a == sysModules) = false ∧
    ∃ xs, KT H kvs xs ∧ h.DictOfH (tupleKind (mixKind P w)) a xs := by
  obtain ⟨z, y, xs, r, o, es, ep, h1, h2, h3, h4, h5⟩ := (show ObjOk P w H h a (.dT kvs) from rd_of ok e)
  refine ⟨z, y, xs, r, o, es, ep, h1, h2, h3, h4, fun x hx => ?_, h5⟩
  have all : ∀ {l : List (List Key × V)} {m : List (List Key × Addr × Value)}, KT H l m → ∀ x ∈ m, (tupleKind (mixKind P w)).is h x.1 x.2.1 := by
    intro l m q
    induction q with
    | nil => intro x hx; exact nomatch hx
    | @cons p q ps qs hq t ih =>
      intro x hx
      rcases List.mem_cons.mp hx with e | hx
      · subst e
        exact key_of ok (by rw [← hq.1]; exact hq.2.1)
      · exact ih x hx
  exact all r x hx
theorem dt_of {kvs : List (List Key × V)} (ok : HOk P w H h) (e : H a = some (.dT kvs)) : kvs.length ≤ sizeLine ∧ (a == sysModules) = false ∧
    ∃ xs, KT H kvs xs ∧ h.DictOfH (tupleKind (mixKind P w)) a xs := dt_rd ok (.inl e)
end

/-- what the dict at a holds at the key y -/
def DGet (H : Hp) (a : Addr) (y : V) (r : Option V) : Prop :=
  (∃ kvs k, Rd H a (.dK kvs) ∧ y = kV k ∧ r = valV kvs k) ∨ ∃ kvs k b, Rd H a (.dT kvs) ∧ y = .ref b ∧ H b = some (.tup (k.map kV)) ∧ r = valV kvs k
/-- the heap behind a[y] = v -/
def DPut (H : Hp) (a : Addr) (y v : V) (H' : Hp) : Prop :=
  (∃ kvs k, H a = some (.dK kvs) ∧ y = kV k ∧ kvs.length < sizeLine ∧ H' = upd H a (.dK (putK kvs k v))) ∨
  ∃ kvs k b, H a = some (.dT kvs) ∧ y = .ref b ∧ H b = some (.tup (k.map kV)) ∧ kvs.length < sizeLine ∧ H' = upd H a (.dT (putK kvs k v))
theorem DGet.k {H : Hp} {a : Addr} {kvs : List (Key × V)} {k : Key} (e : H a = some (.dK kvs)) : DGet H a (kV k) (valV kvs k) := .inl ⟨kvs, k, .inl e, rfl, rfl⟩
theorem DGet.t {H : Hp} {a b : Addr} {kvs : List (List Key × V)} {k : List Key} (e : H a = some (.dT kvs)) (eb : H b = some (.tup (k.map kV))) : DGet H a (.ref b) (valV kvs k) := .inr ⟨kvs, k, b, .inl e, rfl, eb, rfl⟩
theorem DPut.k {H : Hp} {a : Addr} {kvs : List (Key × V)} {k : Key} {v : V} (e : H a = some (.dK kvs)) (hl : kvs.length < sizeLine) : DPut H a (kV k) v (upd H a (.dK (putK kvs k v))) := .inl ⟨kvs, k, e, rfl, hl, rfl⟩
theorem DPut.t {H : Hp} {a b : Addr} {kvs : List (List Key × V)} {k : List Key} {v : V} (e : H a = some (.dT kvs)) (eb : H b = some (.tup (k.map kV))) (hl : kvs.length < sizeLine) :
    DPut H a (.ref b) v (upd H a (.dT (putK kvs k v))) := .inr ⟨kvs, k, b, e, rfl, eb, hl, rfl⟩


section
variable {X : Cx} {pins : List (Addr × Obj)} {σ : St} {H : Hp} {s : Shared} {a : Addr} {y v : V} {u r : Value} {o : Option V} {A : Around} {E : Value → Shared → Prop}

theorem Inv.big (I : Inv X pins σ H s) : sysModules < s.heap.objs.size := by
  have h : mainGlobals < s.heap.objs.size := (I.mod.glob.keeps I.bk).lt
  exact Nat.lt_trans (by decide) h

/-- d[y], there -/
theorem d_getItem {Q : Value → Shared → Prop} (hu : A.units + 1 < cLine) (I : Inv X pins σ H s) (g : DGet H a y (some v)) (ry : RelV y u) (h : ∀ w' s', Inv X pins σ H s' → RelV v w' → Q w' s') :
    wpAny (model X.prog X.w) A (getItem (.ref a) u) Q E s := by
  rcases g with ⟨kvs, k, e, ey, l⟩ | ⟨kvs, k, b, e, ey, eb, l⟩
  · subst ey
    obtain ⟨z, hd, vs, rel, dd⟩ := dk_rd I.hok e
    obtain ⟨w', hw, rw'⟩ := RelO.some_of (v := v) (o := valueAt vs k) (by rw [l]; exact rel.val k)
    exact wpAny_getItem_of (kV_is ry) dd.mapOf hw (h w' _ (I.tok _) rw')
  · subst ey
    cases (show u = Value.ref b from ry)
    obtain ⟨z, hd, xs, rel, dd⟩ := dt_rd I.hok e
    obtain ⟨w', hw, rw'⟩ := RelO.some_of (v := v) (o := (atKey xs k).map (·.2)) (by rw [l]; exact rel.val k)
    obtain ⟨p, hp, hp2⟩ := Option.map_eq_some_iff.mp hw
    refine wpAny_getItem_heap (tupleKind_room_in1 hu) (key_of I.hok eb) dd hp ?_
    rw [hp2]
    exact h w' _ (I.tok _) rw'
/-- a dict's object is replaced -/
theorem d_write {h' : Heap} {t' : Nat} {ob : HO} (I : Inv X pins σ H s) (mu : Mut (H a)) (hs : Heap.SameBut a s.heap h') (he : ∃ q, h'.get? a = some q) (new : ObjOk X.prog X.w (upd H a ob) h' a ob) :
    Inv X pins σ (upd H a ob) { s with heap := h', toks := t' } :=
  I.write (x := a) (e := a) mu (.inl rfl) (fun b q hb z => (hs.2 b hb).trans z) he new
theorem dk_new {P : Program} {w : World} {H' : Hp} {h' : Heap} {kvs : List (Key × V)} {vs : List (Key × Value)} (z : kvs.length ≤ sizeLine) (hd : (a == sysModules) = false) (rel : KV kvs vs) (dd : h'.DictOf (mixKind P w) a vs) :
    ObjOk P w H' h' a (.dK kvs) := ⟨z, hd, vs, rel, dd⟩
/-- d[y] = v -/
theorem d_setItem {H' : Hp} {Q : Unit → Shared → Prop} (hu : A.units + 1 < cLine) (I : Inv X pins σ H s) (g : DPut H a y v H') (ry : RelV y u) (rv : RelV v r) (h : ∀ s', Inv X pins σ H' s' → Q () s') :
    wpAny (model X.prog X.w) A (setItem (.ref a) u r) Q E s := by
  rcases g with ⟨kvs, k, e, ey, l, eH⟩ | ⟨kvs, k, b, e, ey, eb, l, eH⟩
  · subst ey eH
    obtain ⟨z, hd, vs, rel, dd⟩ := dk_of I.hok e
    have hz : vs.length ≤ sizeLine := by rw [← rel.length]; exact z
    have hl : (putK kvs k v).length ≤ sizeLine := by have := length_putK kvs k v; omega
    refine wpAny_setItem_pairs (hsz := hz) (kV_is ry) dd fun h' dd' hs => h _ ?_
    have he : ∃ q, h'.get? a = some q := let ⟨q, _, _, hq, _⟩ := dd'; ⟨q, hq⟩
    exact d_write I (by rw [e]; exact True.intro) hs he (dk_new hl hd (rel.put k rv) dd')
  · subst ey eH
    cases (show u = Value.ref b from ry)
    obtain ⟨z, hd, xs, rel, dd⟩ := dt_of I.hok e
    have hz : xs.length ≤ sizeLine := by rw [← Paired.length rel]; exact z
    have hl : (putK kvs k v).length ≤ sizeLine := by have := length_putK kvs k v; omega
    refine wpAny_setItem_heap (hsz := hz) (tupleKind_room_in1 hu) (key_of I.hok eb) dd fun h' dd' hs => h _ ?_
    obtain ⟨q, es, ep, hq, h2, h3, h4, _, h5⟩ := dd'
    refine d_write I (by rw [e]; exact True.intro) hs ⟨q, hq⟩ ⟨hl, hd, _, (rel.put k eb rv).keeps fun c ys ec => ?_, q, es, ep, hq, h2, h3, h4, h5⟩
    rw [upd_ne (ne_of ec e (fun z => nomatch z))]
    exact ec
end

section
variable {X : Cx} {pins : List (Addr × Obj)} {σ : St} {H : Hp} {s : Shared} {a : Addr} {kvs : List (Key × V)} {k : Key} {u : Value} {A : Around} {E : Value → Shared → Prop}
end


/-! ### readings and rules -/
/-- the element of a subscription, not a slice -/
def NoSl (i : Expr) : Prop := ∀ ov iv, subscripted i false ov iv = operate [ov, iv] (getItem ov iv)
theorem subD_of {prog : Program} {w : World} {A : Around} {E : Value → Shared → Prop} {s : Shared} {env : Env} {value slice : Expr} {pos : Pos} {T id : String} {Q : Value → Shared → Prop}
    (hl : typeLookup (.type T) "__getitem__" = pure (some (.builtin id))) (hs : NoSl slice)
    (h : wpAny (model prog w) A (eval value env) (fun o s₁ => wpAny (model prog w) A (eval slice env) (fun i s₂ => s₂.TypeIs o T ∧ wpAny (model prog w) A (getItem o i) Q E s₂) E s₁) E s) :
    wpAny (model prog w) A (eval (.Subscript value slice pos) env) Q E s := by
  refine Subscript_ (wpAny_mono h (fun o s₁ h₁ => wpAny_mono h₁ (fun i s₂ h₂ => ?_) fun _ _ x => x) fun _ _ x => x)
  obtain ⟨hT, h₂⟩ := h₂
  unfold subscriptTail
  refine wpAny_bind ?_
  rw [getitemInPython_of_ne hT.not_modules]
  refine wpAny_bind (wpAny_specialOf hT hl ?_)
  have fin : wpAny (model prog w) A (subscripted slice false o i) (fun r s₃ => wpAny (model prog w) A (letTemporaryGo value o r >>= fun _ => pure r) Q E s₃) E s₂ := by
    rw [hs o i]
    exact wpAny_operating (wpAny_mono h₂ (fun r s₃ h₃ => wpAny_bind (wpAny_letTemporaryGo (wpAny_pure h₃))) fun _ _ x => x)
  first
    | exact wpAny_pure (wpAny_bind fin)
    | exact wpAny_bind (wpAny_pure (wpAny_bind fin))
    | exact wpAny_bind fin

theorem dict_typeIs {X : Cx} {pins : List (Addr × Obj)} {σ : St} {H : Hp} {s : Shared} {a : Addr} {y : V} {o : Option V} (I : Inv X pins σ H s) (g : DGet H a y o) : s.TypeIs (.ref a) "dict" := by
  rcases g with ⟨kvs, k, e, _, _⟩ | ⟨kvs, k, b, e, _, _, _⟩
  · obtain ⟨_, _, vs, _, dd⟩ := dk_rd I.hok e
    exact dd.typeIs
  · obtain ⟨_, _, xs, _, dd⟩ := dt_rd I.hok e
    exact dd.typeIs
/-- d[y] -/
def tDGet (td ty : TE) : TE := fun σ H Q => td σ H fun x H1 => ty σ H1 fun y H2 => ∃ a v, x = .ref a ∧ DGet H2 a y (some v) ∧ Q v H2
/-- d[y] = v -/
def sDPut (td ty tv : TE) : TS := fun D σ H => tv σ H fun v H1 => td σ H1 fun x H2 => ty σ H2 fun y H3 => ∃ a H4, x = .ref a ∧ DPut H3 a y v H4 ∧ D.nx σ H4
section
variable {X : Cx} {o i e value : Expr} {pos pos' tpos : Pos} {td ty tv : TE}
theorem pe_dget (hu : X.A.units + 1 < cLine) (ho : PE X o td) (hi : PE X i ty) (hs : NoSl i) : PE X (.Subscript o i pos) (tDGet td ty) := by
  intro pins s σ H Q I h
  refine subD_of PySem.F.slot_dict_getitem.lookup hs (thn (ho pins s σ H _ I h) fun u s1 ⟨x, H1, I1, rx, q1⟩ => thn (hi pins s1 σ H1 _ I1 q1) fun iv s2 ⟨y, H2, I2, ry, a, v, ex, g, q2⟩ => ?_)
  subst ex
  obtain rfl : u = Value.ref a := rx
  exact ⟨dict_typeIs I2 g, d_getItem hu I2 g ry fun w' s3 I3 rw' => ⟨v, H2, I3, rw', q2⟩⟩
theorem ps_dput (hu : X.A.units + 1 < cLine) (ho : PE X o td) (hi : PE X i ty) (hv : PE X value tv) (hs : swapsWith value (some (.Subscript o i pos')) pos.line X.env = pure false) :
    PS X (.Assign [.Subscript o i pos'] value pos) (sDPut td ty tv) := by
  intro pins s σ H D I h
  refine wpAny_Assign_Subscript (thn (hv pins s σ H _ I h) fun r s1 ⟨v, H1, I1, rv, q1⟩ => thn (ho pins s1 σ H1 _ I1 q1) fun u s2 ⟨x, H2, I2, rx, q2⟩ => thn (hi pins s2 σ H2 _ I2 q2) fun iv s3 ⟨y, H3, I3, ry, a, H4, ex, g, q3⟩ => ?_) hs
  subst ex
  obtain rfl : u = Value.ref a := rx
  exact d_setItem hu I3 g ry rv fun s4 I4 => ⟨σ, H4, I4, q3⟩
end


/-! ### displays -/
theorem dk_empty {P : Program} {w : World} {H : Hp} (h : Heap) (hb : sysModules < h.objs.size) : ObjOk P w H (h.push { cls := .type "dict", data := .dict #[] }) h.objs.size (.dK []) :=
  ⟨Nat.zero_le _, beq_eq_false_iff_ne.mpr (Ne.symm (Nat.ne_of_lt hb)), [], .nil, Heap.DictOf.new h⟩
theorem dt_empty {P : Program} {w : World} {H : Hp} (h : Heap) (hb : sysModules < h.objs.size) : ObjOk P w H (h.push { cls := .type "dict", data := .dict #[] }) h.objs.size (.dT []) :=
  ⟨Nat.zero_le _, beq_eq_false_iff_ne.mpr (Ne.symm (Nat.ne_of_lt hb)), [], .nil, _, #[], 0, Heap.get?_push_size _ rfl, ⟨rfl, rfl, rfl⟩, rfl, rfl, List.nodup_nil⟩
/-- {}, to be a dict of the kind that is wanted -/
def tDNewK : TE := fun _ H Q => ∀ p, H p = none → Q (.ref p) (upd H p (.dK []))
def tDNewT : TE := fun _ H Q => ∀ p, H p = none → Q (.ref p) (upd H p (.dT []))
section
variable {X : Cx} {pos : Pos}
theorem pe_dnewK : PE X (.Dict [] [] pos) tDNewK := fun pins s σ H Q I h =>
  wpAny_Dict_empty ⟨.ref s.heap.objs.size, _, I.laid (a := s.heap.objs.size) (o := .dK []) (t' := s.toks) (fun _ _ q => Heap.get?_push_of_some _ q) (Nat.le_refl _) (dk_empty s.heap I.big), rfl, h _ (I.hok.fresh (Nat.le_refl _))⟩
theorem pe_dnewT : PE X (.Dict [] [] pos) tDNewT := fun pins s σ H Q I h =>
  wpAny_Dict_empty ⟨.ref s.heap.objs.size, _, I.laid (a := s.heap.objs.size) (o := .dT []) (t' := s.toks) (fun _ _ q => Heap.get?_push_of_some _ q) (Nat.le_refl _) (dt_empty s.heap I.big), rfl, h _ (I.hok.fresh (Nat.le_refl _))⟩
end

/-! ### methods -/
structure M2 (X : Cx) (o : Expr) (m : Str) (apos : Pos) (e f : Expr) (cpos : Pos) : Prop where
  base : attributeBase o m X.env (eval o X.env) = eval o X.env
  few : ((backTo cpos (starEach [e, f] X.env)).all (fun x => !x.1) && (backToKw cpos (keywordEach [] X.env)).all (fun x => x.1.isSome)
    && decide (([e, f] : List Expr).length + ([] : List Keyword).length + (if ([] : List Keyword).isEmpty then 0 else 1) < 30)) = true
  line : (apos.endLine == cpos.line) = true
  trees : backTo cpos (starEach [e, f] X.env) = [(false, eval e X.env), (false, eval f X.env)]

/-- a is a dict, whatever its keys -/
def IsD (H : Hp) (a : Addr) : Prop := (∃ kvs, Rd H a (.dK kvs)) ∨ ∃ kvs, Rd H a (.dT kvs)
theorem isD_at {X : Cx} {pins : List (Addr × Obj)} {σ : St} {H : Hp} {s : Shared} {a : Addr} (I : Inv X pins σ H s) (d : IsD H a) :
    s.TypeIs (.ref a) "dict" ∧ (∀ b, Value.ref a = .ref b → ∃ ob, s.heap.get? b = some ob ∧ ob.dict = none) ∧ (a == sysModules) = false := by
  rcases d with ⟨kvs, e⟩ | ⟨kvs, e⟩
  · obtain ⟨_, hd, vs, _, dd⟩ := dk_rd I.hok e
    refine ⟨dd.typeIs, fun b q => ?_, hd⟩
    cases q
    obtain ⟨ob, _, _, h1, h2, _⟩ := dd
    exact ⟨ob, h1, h2.2.1⟩
  · obtain ⟨_, hd, xs, _, dd⟩ := dt_rd I.hok e
    refine ⟨dd.typeIs, fun b q => ?_, hd⟩
    cases q
    obtain ⟨ob, _, _, h1, h2, _⟩ := dd
    exact ⟨ob, h1, h2.2.1⟩

section
variable {X : Cx} {pins : List (Addr × Obj)} {σ : St} {H : Hp} {s : Shared} {a : Addr} {y d : V} {u r : Value} {o : Option V} {A : Around} {E : Value → Shared → Prop}
/-- d.get(y, x) -/
theorem d_get2 {Q : Value → Shared → Prop} (hu : A.units + 1 < cLine) (I : Inv X pins σ H s) (g : DGet H a y o) (ry : RelV y u) (rd : RelV d r) (h : ∀ w' s', Inv X pins σ H s' → RelV (o.getD d) w' → Q w' s') :
    wpAny (model X.prog X.w) A (call (.builtin "dict.get") [.ref a, u, r]) Q E s := by
  rcases g with ⟨kvs, k, e, ey, l⟩ | ⟨kvs, k, b, e, ey, eb, l⟩
  · subst ey
    obtain ⟨z, hd, vs, rel, dd⟩ := dk_rd I.hok e
    refine call_meetsIn PySem.F.slot_dict_get dd.typeIs PySem.F.entry_dict_get (PySem.F.args_dict_get_3 _ _ _) (meets_dict_get_default (mixKind X.prog X.w) a (kV_is ry) hd r) ⟨_, dd.mapOf, h _ _ (I.tok _) ?_⟩
    rw [l]
    exact (rel.val k).getD rd
  · subst ey
    cases (show u = Value.ref b from ry)
    obtain ⟨z, hd, xs, rel, dd⟩ := dt_rd I.hok e
    refine call_meetsIn PySem.F.slot_dict_get dd.typeIs PySem.F.entry_dict_get (PySem.F.args_dict_get_3 _ _ _) (meetsH_dict_get_default (tupleKind (mixKind X.prog X.w)) a b hd r) ⟨tupleKind_room_in1 hu, k, xs, key_of I.hok eb, dd, h _ _ (I.tok _) ?_⟩
    rw [l]
    exact (rel.val k).getD rd
end

def tDGet2 (td ty tx : TE) : TE := fun σ H Q => td σ H fun x H1 => ∃ a, x = .ref a ∧ IsD H1 a ∧ ty σ H1 fun y H2 => tx σ H2 fun z H3 => ∃ o, DGet H3 a y o ∧ Q (o.getD z) H3
section
variable {X : Cx} {o e f : Expr} {apos cpos : Pos} {td ty tx : TE}
theorem pe_dget2 (hu : X.A.units + 1 < cLine) (ho : PE X o td) (he : PE X e ty) (hf : PE X f tx) (m : M2 X o "get" apos e f cpos) : PE X (.Call (.Attribute o "get" apos) [e, f] [] cpos) (tDGet2 td ty tx) := by
  intro pins s σ H Q I h
  refine wpAny_Call_method m.base m.few m.line PySem.F.plainAttrs_dict PySem.F.slot_dict_get PySem.F.type_dict_get (thn (ho pins s σ H _ I h) fun u s1 ⟨x, H1, I1, rx, a, ex, d, q1⟩ => ?_)
  subst ex
  obtain rfl : u = Value.ref a := rx
  obtain ⟨t1, t2, _⟩ := isD_at I1 d
  refine ⟨t1, t2, ?_⟩
  rw [m.trees]
  refine Calls.callWith_builtin rfl (Calls.evalArgs_plain (Calls.spliced_cons (thn (he pins s1 σ H1 _ I1 q1) fun iv s2 ⟨y, H2, I2, ry, q2⟩ =>
    Calls.spliced_cons (thn (hf pins s2 σ H2 _ I2 q2) fun fv s3 ⟨z, H3, I3, rz, ov, g, q3⟩ => Calls.spliced_nil ?_))))
  exact d_get2 hu I3 g ry rz fun w' s4 I4 rw' => ⟨_, H3, I4, rw', q3⟩
end

/-! ### dict(d): a copy -/
section
variable {X : Cx} {pins : List (Addr × Obj)} {σ : St} {H : Hp} {s : Shared} {a : Addr} {kvs : List (Key × V)} {A : Around} {E : Value → Shared → Prop}
end


section
variable {X : Cx} {pins : List (Addr × Obj)} {σ : St} {H : Hp} {s : Shared} {a : Addr} {y : V} {u : Value} {A : Around} {E : Value → Shared → Prop}
end
end L2
/-! ### my own rules over the layer -/
namespace L2
open PySem PySem.Spec PyProof.Rows
section
variable {X : Cx} {pos : Pos} {a b c d : Expr} {ta tb tc td : TE}
/-- isinstance(x, T), T a built-in type -/
theorem call_isi : CallR X (.builtin "isinstance") (fun xs H Q => ∃ x n t b, xs = [x, .ty n] ∧ TyOf X.K H x t ∧ PySem.W.kitOne X.K t (.type n) = some b ∧ Q (.bl b) H) := by
  intro pins s σ H xs us Q I r h
  obtain ⟨x, n, t, b, rfl, ty, e, q⟩ := h
  obtain ⟨u, w', rfl, ru, rw'⟩ := vals2 r
  obtain rfl : w' = Value.type n := rw'
  exact isinst_ok I ru ty e fun tk => ⟨.bl b, H, I.tok tk, rfl, q⟩
end
/-! ### what isinstance tells of built-in types -/
section
open PySem.W
variable {K : Frag}
theorem kit_same {t : String} : kitOne K (.type t) (.type t) = some true := by
  unfold kitOne
  rw [if_pos (by simp)]
theorem kit_of {t c : String} {b : Bool} (h1 : (Value.type t == Value.type c) = false) (h2 : kitMeta c = true) (h3 : (fastBuiltinMro t).map (·.contains (Value.type c)) = some b) : kitOne K (.type t) (.type c) = some b := by
  unfold kitOne
  rw [if_neg (by rw [h1]; decide)]
  unfold kitCls
  show (if kitMeta c = true then subIn K (.type t) (.type c) else none) = some b
  rw [if_pos h2]
  exact h3
theorem kit_int_bool : kitOne K (.type "int") (.type "bool") = some false := kit_of (by decide +kernel) (by decide +kernel) (by decide +kernel)
theorem kit_bool_int : kitOne K (.type "bool") (.type "int") = some true := kit_of (by decide +kernel) (by decide +kernel) (by decide +kernel)
end
/-! ### tests -/
theorem iteD {c A B : Prop} [Decidable c] (h1 : c → A) (h2 : ¬ c → B) : if decide c = true then A else B := by
  by_cases h : c
  · rw [if_pos (decide_eq_true h)]; exact h1 h
  · rw [if_neg (by rw [decide_eq_false h]; decide)]; exact h2 h
theorem iteE {A B : Prop} {i j : Int} (h1 : i = j → A) (h2 : i ≠ j → B) : if decide (V.int i = V.int j) = true then A else B := iteD (fun h => h1 (V.int.inj h)) fun h => h2 fun e => h (congrArg V.int e)
/-! ### heaps -/
theorem Same.put {H H1 : Hp} {l : Addr} {o : HO} (s : Same H H1) (n : H l = none) : Same H (upd H1 l o) := fun b u e => by
  rw [upd_ne (ne_of_none e n)]; exact s b u e
theorem Same.new {H : Hp} {l : Addr} {o : HO} (n : H l = none) : Same H (upd H l o) := (Same.refl H).put n
end L2
/-! ### a list comprehension of one clause -/
namespace L2
open PySem PySem.Spec PyProof.Rows
/-- the loop of a comprehension, a turn at a time, whatever its target is -/
theorem comp_loop {prog : Program} {w : World} {A : Around} {R : Result → Shared → Prop} {s : Shared} {elt target iter : Expr} {ifs : List Expr} {scope : Scope} {pos : Pos} {it acc : Value} {env : Env} (I : Nat → Shared → Prop)
    (turn : ∀ n s, I n s → wpAny (model prog w) A (pyNext it) (fun r s₁ => match r with
      | none => R (.ok .next) s₁
      | some v => wpAny (model prog w) A (letOwnedTupleGo target it v) (fun _ s₁' => wpAny (model prog w) A (assign target env v) (fun _ s₂ =>
          wpAny (model prog w) A (forIn ifs true fun c r => if r = true then do let ok ← isTrue c env (eval c env); pure (ForInStep.yield ok) else pure (ForInStep.yield r)) (fun ok s₃ =>
            if ok = true then wpAny (model prog w) A (eval elt env) (fun x s₄ =>
              wpAny (model prog w) A (call (.builtin "list.append") [acc, x]) (fun _ s₅ => ∃ m, m < n ∧ I m s₅) (notedBy (model prog w) A env fun e s' => R (.error e) s') s₄) (notedBy (model prog w) A env fun e s' => R (.error e) s') s₃
            else ∃ m, m < n ∧ I m s₃) (notedBy (model prog w) A env fun e s' => R (.error e) s') s₂) (notedBy (model prog w) A env fun e s' => R (.error e) s') s₁') (notedBy (model prog w) A env fun e s' => R (.error e) s') s₁) (notedBy (model prog w) A env fun e s' => R (.error e) s') s)
    (n : Nat) (h : I n s) :
    codeAny (model prog w) A (.compLoop (.ListComp elt [⟨target, iter, ifs, 0⟩] scope pos) 0 it acc env) R s := by
  refine codeAny_loop rfl I (fun n s hI => ?_) n h
  show wpAny _ A ((compTurn (.ListComp elt [⟨target, iter, ifs, 0⟩] scope pos) 0 it acc env).onRaise (fun x => do noteFrame x env; theTreesLotGoes x)) _ _ s
  refine wpAny_noted ?_
  rw [compTurn_list]
  refine wpAny_bind (wpAny_standAt (wpAny_bind (wpAny_mono (turn n s hI) (fun r s₁ h₁ => ?_) fun _ _ h' => h')))
  cases r with
  | none => exact wpAny_pure h₁
  | some v =>
    refine wpAny_bind (wpAny_mono h₁ (fun _ s₁' h₁' => wpAny_bind (wpAny_mono h₁' (fun _ s₂ h₂ => wpAny_bind (wpAny_mono h₂ (fun ok s₃ h₃ => ?_) fun _ _ h' => h')) fun _ _ h' => h')) fun _ _ h' => h')
    cases ok with
    | false => exact wpAny_pure ⟨rfl, h₃⟩
    | true =>
      exact wpAny_bind (wpAny_bind (wpAny_mono h₃ (fun x s₄ h₄ => wpAny_bind (wpAny_mono h₄ (fun _ s₅ h₅ => wpAny_pure (wpAny_pure ⟨rfl, h₅⟩)) fun _ _ h' => h')) fun _ _ h' => h'))
/-- the cells that a comprehension sees -/
def clOf (env : Env) : List (Str × NameKind) → List (Str × Addr) → List (Str × Addr)
  | [], cs => cs
  | (n, k) :: r, cs => clOf env r (if k = .free then (n, (env.cells.lookup n).getD 0) :: cs else cs)
theorem clOf_run {env : Env} : ∀ (ns : List (Str × NameKind)) (cs : List (Str × Addr)), (∀ y ∈ ns, y.2 = .free → ∃ c, env.cells.lookup y.1 = some c) →
    (forIn ns cs fun (x : Str × NameKind) (r : List (Str × Addr)) => (if (x.2 == .free) = true then do let c ← cellOf env x.1; pure (ForInStep.yield ((x.1, c) :: r)) else pure (ForInStep.yield r) : Sem (ForInStep (List (Str × Addr))))) = (pure (clOf env ns cs) : Sem _)
  | [], cs, _ => rfl
  | (n, k) :: r, cs, h => by
    have hr := fun y hy => h y (List.mem_cons_of_mem _ hy)
    by_cases hk : k = .free
    · obtain ⟨c, hc⟩ := h (n, k) List.mem_cons_self hk
      subst hk
      rw [List.forIn_cons]
      have e : cellOf env n = pure c := by unfold cellOf; rw [hc]
      simp only [beq_self_eq_true, if_true, e, pure_bind]
      rw [clOf_run r _ hr]
      show _ = pure (clOf env r (if NameKind.free = NameKind.free then (n, (env.cells.lookup n).getD 0) :: cs else cs))
      rw [if_pos rfl, show env.cells.lookup n = some c from hc]
      rfl
    · have hb : (k == NameKind.free) = false := by simpa using hk
      rw [List.forIn_cons]
      simp only [hb, Bool.false_eq_true, if_false, pure_bind]
      rw [clOf_run r _ hr]
      show _ = pure (clOf env r (if k = NameKind.free then (n, (env.cells.lookup n).getD 0) :: cs else cs))
      rw [if_neg hk]
theorem closure_is {env : Env} {scope : Scope} (h : ∀ y ∈ scope.names, y.2 = .free → ∃ c, env.cells.lookup y.1 = some c) : closureFor scope env = pure (clOf env scope.names []) := by
  unfold closureFor
  have e := clOf_run scope.names [] h
  simp only [bind_pure] at e ⊢
  exact e
theorem clOf_lookup {env : Env} {x : Str} {c : Addr} : ∀ (ns : List (Str × NameKind)) (cs : List (Str × Addr)), (∀ y ∈ ns, y.2 = .free → ∃ c, env.cells.lookup y.1 = some c) → (∀ x c, cs.lookup x = some c → env.cells.lookup x = some c) →
    (clOf env ns cs).lookup x = some c → env.cells.lookup x = some c
  | [], cs, _, hc, e => hc x c e
  | (n, k) :: r, cs, h, hc, e => by
    unfold clOf at e
    refine clOf_lookup r _ (fun y hy => h y (List.mem_cons_of_mem _ hy)) (fun x' c' e' => ?_) e
    by_cases hk : k = .free
    · rw [if_pos hk] at e'
      obtain ⟨c0, h0⟩ := h (n, k) List.mem_cons_self hk
      rw [h0] at e'
      rw [List.lookup_cons] at e'
      by_cases q : x' == n
      · rw [q] at e'
        cases e'
        rw [beq_iff_eq.mp q]
        exact h0
      · have q' : (x' == n) = false := by simpa using q
        rw [q'] at e'
        exact hc x' c' e'
    · rw [if_neg hk] at e'
      exact hc x' c' e'
theorem clOf_has0 {env : Env} {x : Str} : ∀ (ns : List (Str × NameKind)) (cs : List (Str × Addr)), (∃ c, cs.lookup x = some c) → ∃ c, (clOf env ns cs).lookup x = some c
  | [], cs, h => h
  | (n, k) :: r, cs, h => by
    unfold clOf
    refine clOf_has0 r _ ?_
    by_cases hk : k = .free
    · rw [if_pos hk, List.lookup_cons]
      by_cases q : x == n
      · rw [q]; exact ⟨_, rfl⟩
      · have q' : (x == n) = false := by simpa using q
        rw [q']; exact h
    · rw [if_neg hk]; exact h
theorem clOf_has {env : Env} {x : Str} : ∀ (ns : List (Str × NameKind)) (cs : List (Str × Addr)), (x, NameKind.free) ∈ ns → ∃ c, (clOf env ns cs).lookup x = some c
  | (n, k) :: r, cs, h => by
    unfold clOf
    rcases List.mem_cons.mp h with e | e
    · cases e
      rw [if_pos rfl]
      exact clOf_has0 r _ ⟨_, by rw [List.lookup_cons, beq_self_eq_true]⟩
    · exact clOf_has r _ e

/-- the context of a comprehension's block -/
def Cx.comp (X : Cx) (scope : Scope) (C : Addr) (N : List Str) (s₀ : Shared) (H₀ : Hp) (ex : List Addr) (E : Value → Shared → Prop) : Cx where
  prog := X.prog
  w := X.w
  K := X.K
  mg := X.mg
  base := X.base
  A := X.A
  N := N
  s₀ := s₀
  H₀ := H₀
  env := compEnvC scope (clOf X.env scope.names []) C X.env
  outer := X.stack
  stack := X.stack
  ex := ex
  fn := fun _ => false
  calm := X.calm
  pn := []
  xe := E
/-- the tests of a clause -/
def PIfs (X : Cx) (ifs : List Expr) (t : TT) : Prop :=
  ∀ (pins : List (Addr × Obj)) (s : Shared) (σ : St) (H : Hp) (Q : Bool → Hp → Prop), Inv X pins σ H s → t σ H Q →
    wpAny (model X.prog X.w) X.A (forIn ifs true fun c r => if r = true then do let ok ← isTrue c X.env (eval c X.env); pure (ForInStep.yield ok) else pure (ForInStep.yield r)) (TP X pins σ Q) X.xe s
def tYes : TT := fun _ H Q => Q true H
theorem pifs_nil {X : Cx} : PIfs X [] tYes := fun _ _ _ H _ I h => wpAny_tests_nil ⟨H, I, h⟩
theorem pifs_one {X : Cx} {c : Expr} {t : TT} (h : PT X c t) : PIfs X [c] t := fun pins s σ H Q I q => wpAny_tests_one (h pins s σ H Q I q)
/-- what the block sees of the frame: its own names unset, then the frame's slots j -/
def capt (own : Nat) (js : List Nat) (σ : St) : St := List.replicate own none ++ js.map fun j => (σ[j]?).getD none
/-- the block from its start on: W the word by the turn and a measure -/
def CompW (J : It) (own : Nat) (js : List Nat) (g : TG) (ti : TT) (te : TE) (σ : St) (H1 : Hp) (acc : Addr) (Q : VK) : Prop :=
  ∃ W : Nat → Nat → Hp → Prop, (∃ m, W 0 m (upd H1 acc (.lst []))) ∧ ∀ i m H2, W i m H2 →
    (J.stop i H2 ∧ Q (.ref acc) H2) ∨ (J.go i H2 ∧ ∀ x H3, J.yld i H2 x H3 → g x (capt own js σ) H3 fun σ4 H4 => ti σ4 H4 fun b H5 =>
      if b = true then te σ4 H5 fun y H6 => rAppend (.ref acc) [y] H6 fun _ H7 => ∃ m', m' < m ∧ W (i + 1) m' H7 else ∃ m', m' < m ∧ W (i + 1) m' H5)
def tComp (own : Nat) (js : List Nat) (wi : TI) (g : TG) (ti : TT) (te : TE) : TE := fun σ H Q => wi σ H fun J H1 => ∀ acc, H1 acc = none → CompW J own js g ti te σ H1 acc Q
end L2
namespace L2
open PySem PySem.Spec PyProof.Rows
theorem thnF {α : Type} {t : Sem α} {Q Q' : α → Shared → Prop} {M : Model} {A : Around} {E : Value → Shared → Prop} {s : Shared} (h : wpAny M A t Q (fun _ _ => False) s) (hQ : ∀ a s, Q a s → Q' a s) : wpAny M A t Q' E s := wpAny_mono h hQ fun _ _ f => f.elim
theorem relabel_kind {scope : Scope} {env : Env} {x : Str} : ∀ {names : List (Str × NameKind)}, ((names.map fun (n, k) => if (k == NameKind.free && env.scope.kind == .function && env.kindOf n == some .cell) then (n, NameKind.cell) else (n, k)).lookup x = some .cell ∨
    (names.map fun (n, k) => if (k == NameKind.free && env.scope.kind == .function && env.kindOf n == some .cell) then (n, NameKind.cell) else (n, k)).lookup x = some .free) → (∀ y ∈ names, y.2 ≠ .cell) → (x, NameKind.free) ∈ names
  | [], h, _ => by simp at h
  | (n, k) :: r, h, hc => by
    have hr : ∀ y ∈ r, y.2 ≠ .cell := fun y hy => hc y (List.mem_cons_of_mem _ hy)
    have h0 : k ≠ .cell := hc (n, k) List.mem_cons_self
    rw [List.map_cons, List.lookup_cons] at h
    by_cases hb : (k == NameKind.free && env.scope.kind == .function && env.kindOf n == some .cell) = true
    · rw [if_pos hb] at h
      dsimp only at h
      by_cases q : x == n
      · have hk : k = .free := by simp only [Bool.and_eq_true, beq_iff_eq] at hb; exact hb.1.1
        rw [beq_iff_eq.mp q, hk]
        exact List.mem_cons_self
      · have q' : (x == n) = false := by simpa using q
        rw [q'] at h
        exact List.mem_cons_of_mem _ (relabel_kind (scope := scope) h hr)
    · rw [if_neg hb] at h
      dsimp only at h
      by_cases q : x == n
      · rw [q] at h
        dsimp only at h
        have hk : k = .free := by
          rcases h with h | h
          · exact absurd (Option.some.inj h) h0
          · exact Option.some.inj h
        rw [beq_iff_eq.mp q, hk]
        exact List.mem_cons_self
      · have q' : (x == n) = false := by simpa using q
        rw [q'] at h
        exact List.mem_cons_of_mem _ (relabel_kind (scope := scope) h hr)
/-- the target stores into the block's own slots alone -/
def OwnG (own : Nat) (g : TG) : Prop := ∀ v σ H (Q : St → Hp → Prop), g v σ H Q → g v σ H fun σ' H' => Q σ' H' ∧ σ'.length = σ.length ∧ ∀ i, own ≤ i → σ'[i]? = σ[i]?
theorem ownG_name {i own : Nat} (h : i < own) : OwnG own (gName i) := fun v σ H Q q => ⟨q, List.length_set .., fun j hj => by rw [List.getElem?_set_ne (by omega)]⟩
theorem capt_length (own : Nat) (js : List Nat) (σ : St) : (capt own js σ).length = own + js.length := by simp [capt]
theorem capt_some {own : Nat} {js : List Nat} {σ : St} {i : Nat} {v : V} (h : (capt own js σ)[i]? = some (some v)) : own ≤ i ∧ ∃ j, js[i - own]? = some j ∧ σ[j]? = some (some v) := by
  unfold capt at h
  by_cases hi : i < own
  · rw [List.getElem?_append_left (by simpa using hi), List.getElem?_replicate, if_pos hi] at h
    cases h
  · rw [List.getElem?_append_right (by simpa using hi), List.length_replicate, List.getElem?_map] at h
    refine ⟨by omega, ?_⟩
    cases e : js[i - own]? with
    | none => rw [e] at h; cases h
    | some j =>
      rw [e] at h
      refine ⟨j, rfl, ?_⟩
      have h' : (σ[j]?).getD none = some v := Option.some.inj h
      cases e2 : σ[j]? with
      | none => rw [e2] at h'; cases h'
      | some o => rw [e2] at h'; exact congrArg some h'
theorem comp_core {X : Cx} {elt tg iter : Expr} {ifs : List Expr} {scope : Scope} {pos ps : Pos} {N : List Str} {own : Nat} {js : List Nat} {wi : TI} {g : TG} {ti : TT} {te : TE} (hc : X.calm = true)
    (hcell : ∀ y ∈ scope.names, y.2 ≠ .cell) (hkind : scope.kind = .function) (hnames : ∀ y ∈ scope.names, y.2 = .local → scope.names.lookup y.1 = some .local)
    (hfree : ∀ y ∈ scope.names, y.2 = .free → X.env.kindOf y.1 = some .cell ∨ X.env.kindOf y.1 = some .free) (hlen : N.length = own + js.length)
    (hcap : ∀ (i j : Nat) (x : Str), js[i]? = some j → N[own + i]? = some x → X.N[j]? = some x ∧ (x, NameKind.free) ∈ scope.names ∧ (X.env.kindOf x = some .cell ∨ X.env.kindOf x = some .free) ∧ ((relabel scope X.env).names.lookup x = some .cell ∨ (relabel scope X.env).names.lookup x = some .free))
    (hi : PI X tg iter wi) (hg : ∀ C s₀ H₀ ex, PG (X.comp scope C N s₀ H₀ ex fun _ _ => False) tg g) (ho : OwnG own g) (ht : ∀ C s₀ H₀ ex, PIfs (X.comp scope C N s₀ H₀ ex fun _ _ => False) ifs ti) (he : ∀ C s₀ H₀ ex, PE (X.comp scope C N s₀ H₀ ex fun _ _ => False) elt te)
    {pins : List (Addr × Obj)} {s : Shared} {σ : St} {H : Hp} {Q : VK} {use : Option (Value → Sem Unit)} {RQ : Value → Shared → Prop} (I : Inv X pins σ H s) (h : tComp own js wi g ti te σ H Q)
    (fin : ∀ (acc C : Addr) (H3 : Hp) (s4 : Shared) (m : Str → Option Value), Inv X pins σ H3 s4 → s4.heap.Ns C m → H3 C = none → C ≠ X.env.locals → C ∉ X.fs → X.s₀.heap.objs.size ≤ C → (∀ x c, X.env.cells.lookup x = some c → c ≠ C) → (∀ p ∈ X.pn ++ pins, p.1 ≠ C) →
      Q (.ref acc) H3 → compPost (model X.prog X.w) X.A X.xe use RQ (.ref acc) C (.ok .next) s4)
    (hs : ∀ x, foldedSetIterable iter X.env x = pure x := by intro _; rfl) :
    wpAny (model X.prog X.w) X.A (comprehension (.ListComp elt [⟨tg, iter, ifs, 0⟩] scope pos) scope X.env ps (newList []) false (eval iter X.env) use) RQ X.xe s := by
  have hcl : ∀ y ∈ scope.names, y.2 = .free → ∃ c, X.env.cells.lookup y.1 = some c := fun y hy hf => I.ok.has y.1 (hfree y hy hf)
  refine wpAny_comprehension_free (use := use) rfl hs (closure_is hcl) hkind hnames (thn (hi pins s σ H _ I h) fun v s1 h1 => thn h1 fun itv s2 h2 => ?_)
  obtain ⟨it, fp, tn, J, H2, e, I2, T, st2, f2, q⟩ := h2
  subst e
  have nf : H2 s2.heap.objs.size = none := I2.hok.fresh (Nat.le_refl _)
  obtain ⟨W, ⟨m0, w0⟩, turn⟩ := q s2.heap.objs.size nf
  refine wpAny_newObj_type (wpAny_newFunctionEnv hcell (by intro y hy; simp at hy) (fun h₁ hns₁ hsb₁ => ?_) hkind)
  dsimp only at hns₁ hsb₁ ⊢
  generalize hP2 : s2.heap.push { cls := .type "list", dict := none, data := .seq ([] : List Value).toArray } = P2 at hns₁ hsb₁ ⊢
  have hC : P2.objs.size = s2.heap.objs.size + 1 := by rw [← hP2, Heap.size_push]
  have hC1 : s2.heap.objs.size < P2.objs.size := by rw [hC]; exact Nat.lt_succ_self _
  have kp : ∀ b o, s2.heap.get? b = some o → h₁.get? b = some o := fun b o e => hsb₁.extBut b o (Nat.ne_of_lt (Nat.lt_trans (Heap.lt_size e) hC1)) (Heap.get?_push_of_some _ (hP2 ▸ Heap.get?_push_of_some _ e))
  have hacc : h₁.get? s2.heap.objs.size = some { cls := .type "list", dict := none, data := .seq ([] : List Value).toArray } := hsb₁.extBut _ _ (Nat.ne_of_lt hC1) (Heap.get?_push_of_some _ (hP2 ▸ Heap.get?_push_size _ rfl))
  have lkc : ∀ x c, (clOf X.env scope.names []).lookup x = some c → X.env.cells.lookup x = some c := fun x c e => clOf_lookup scope.names [] hcl (fun _ _ z => by simp at z) e
  have cne : ∀ x c, (clOf X.env scope.names []).lookup x = some c → c < s2.heap.objs.size ∧ H2 c = none := fun x c e => by
    obtain ⟨v, o, ho, hd⟩ := I2.cell x c (lkc x c e)
    exact ⟨Heap.lt_size ho, I2.freeC x c (lkc x c e)⟩
  have fpl : ∀ b ∈ fp, b < s2.heap.objs.size := fun b hb => by
    obtain ⟨o, e, _⟩ := T.obj 0 _ st2 b hb
    exact Heap.lt_size e
  -- the block's invariant, as it starts
  have hX : (X.comp scope P2.objs.size N s2 H2 fp fun _ _ => False).Ok := {
    mod := I.ok.mod
    kind := hkind
    glob := I.ok.glob
    blt := I.ok.blt
    above := Nat.le_of_lt hC1
    inj := fun x y c a b => I.ok.inj x y c (lkc x c a) (lkc y c b)
    has := fun x hx => clOf_has scope.names [] (relabel_kind (scope := scope) (env := X.env) hx hcell)
    cab := fun x c a _ => by cases (show false = true from a)
    hd := I.ok.hd
    frames := I.ok.frames
    stk := .inl rfl
    exf := fun b hb => ⟨Nat.ne_of_lt (Nat.lt_trans (fpl b hb) hC1), fun x c a => (f2 b hb).2.2.2.2.1 x c (lkc x c a)⟩
    bs := I2.bs
    bsz := Nat.le_trans I.ok.bsz I2.sz
    noex := fun b o e hb => by
      rcases (f2 b hb).2.2.2.1 with z | z
      · exact I.ok.noex b o e z
      · exact absurd (Nat.lt_of_lt_of_le (Nat.lt_of_lt_of_le (Heap.lt_size e) I.ok.bsz) z) (Nat.lt_irrefl _)
    exfs := fun b hb z => by
      rcases List.mem_cons.mp (I2.stkSub b z) with z | z
      · exact (f2 b hb).2.1 z
      · exact (f2 b hb).2.2.1 z
    funs := I2.stack
    frf := I2.stkFree }
  have I3 : ∀ tk, Inv (X.comp scope P2.objs.size N s2 H2 fp fun _ _ => False) [] (capt own js σ) (upd H2 s2.heap.objs.size (.lst [])) { s2 with heap := h₁, toks := tk } := fun tk => {
    ok := hX
    os := rfl
    bare := I2.bare
    base := Un.laid kp (Nat.le_refl _) nf
    loc := ⟨_, hns₁, fun i x v a b c => by
      obtain ⟨hio, j, hj, hv⟩ := capt_some b
      obtain ⟨h3, h4, h5, h6⟩ := hcap (i - own) j x hj (by rw [show own + (i - own) = i by omega]; exact a)
      obtain ⟨m, hn, hl⟩ := I2.loc
      obtain ⟨u, ru, lk⟩ := hl j x v h3 hv (.inr h5)
      refine ⟨u, ru, .inr ⟨h6, ?_⟩⟩
      rcases lk with ⟨z, _⟩ | ⟨_, c0, z1, z2⟩
      · rcases h5 with h5 | h5 <;> (rw [h5] at z; cases z)
      · obtain ⟨c1, hc1⟩ := clOf_has (env := X.env) scope.names [] h4
        have := lkc x c1 hc1
        rw [z1] at this
        cases this
        obtain ⟨o, ho, hd⟩ := z2
        exact ⟨c0, hc1, o, kp _ _ ho, hd⟩⟩
    cell := fun x c a => by
      obtain ⟨v, o, ho, hd⟩ := I2.cell x c (lkc x c a)
      exact ⟨v, o, kp _ _ ho, hd⟩
    free := by
      show upd H2 _ _ P2.objs.size = none
      rw [upd_ne (Nat.ne_of_gt hC1)]
      exact I2.hok.fresh (Nat.le_of_lt hC1)
    freeC := fun x c a => by
      rw [upd_ne (Nat.ne_of_lt (cne x c a).1)]
      exact (cne x c a).2
    pin := fun p hp => absurd (show p ∈ ([] : List (Addr × Obj)) from hp) (by simp)
    hok := I2.hok.laid kp (Nat.le_refl _) ⟨Nat.zero_le _, [], 0, .nil, hacc⟩
    len := by rw [capt_length]; exact hlen.symm }
  have fr0 : ∀ b ∈ fp, upd H2 s2.heap.objs.size (.lst []) b = none := fun b hb => by
    rw [upd_ne (Nat.ne_of_lt (fpl b hb))]
    exact (f2 b hb).1
  have st3 : tn 0 h₁ := T.keep 0 _ _ st2 fun b _ o e => kp b o e
  have stat : ∀ {H' : Hp}, (∀ b ∈ fp, H' b = none) → ∀ b ∈ fp, FpOk (X.comp scope P2.objs.size N s2 H2 fp fun _ _ => False) [] H' b := fun hn b hb =>
    ⟨hn b hb, (hX.exf b hb).1, hX.exfs b hb, .inl hb, fun x c a => (hX.exf b hb).2 x c a, fun p hp => absurd (show p ∈ ([] : List (Addr × Obj)) from hp) (by simp)⟩
  have loop : ∀ s₃ : Shared, s₃ = { s2 with heap := h₁, toks := s2.toks + ([] : List (Str × Value)).length } →
      codeAny (model X.prog X.w) X.A (.compLoop (.ListComp elt [⟨tg, iter, ifs, 0⟩] scope pos) 0 (.ref it) (.ref s2.heap.objs.size) (compEnvC scope (clOf X.env scope.names []) P2.objs.size X.env))
        (compPost (model X.prog X.w) X.A X.xe use RQ (.ref s2.heap.objs.size) P2.objs.size) s₃ := by
    rintro s₃ rfl
    refine comp_loop (fun n s' => ∃ i H', Inv (X.comp scope P2.objs.size N s2 H2 fp fun _ _ => False) [] (capt own js σ) H' s' ∧ tn i s'.heap ∧ (∀ b ∈ fp, H' b = none) ∧ W i n H') ?_ m0 ⟨0, _, I3 _, st3, fr0, w0⟩
    rintro n s3 ⟨i, H3, J3, t3, fr3, w3⟩
    rcases turn i n H3 w3 with ⟨stop, qd⟩ | ⟨go, step⟩
    · refine thnF (T.done (X.comp scope P2.objs.size N s2 H2 fp fun _ _ => False) rfl rfl rfl hc i [] s3 _ H3 _ J3 (stat fr3) t3 stop) fun r s4 ⟨hr, J4⟩ => ?_
      subst hr
      obtain ⟨m, hn, _⟩ := J4.loc
      have B : Un (frs X.stack) fp H2 H3 s2.heap s4.heap := J4.base
      have I5 : Inv X pins σ H3 s4 := I2.call' J4.os B J4.hok J4.bare fun b hb => by
        obtain ⟨a1, a2, a3, a4, a5, a6⟩ := f2 b hb
        exact ⟨a4, a2, a5, a6⟩
      have hp := I2.fpOk (H' := H3) (b := P2.objs.size) (Nat.le_of_lt hC1) J4.free
      obtain ⟨a1, a2, a3, a4, a5, a6⟩ := hp
      exact fin s2.heap.objs.size P2.objs.size H3 s4 m I5 hn a1 a2 a3 (Nat.le_trans I2.sz (Nat.le_of_lt hC1)) a5 a6 qd
    · refine thnF (T.item (X.comp scope P2.objs.size N s2 H2 fp fun _ _ => False) rfl rfl rfl hc i [] s3 _ H3 _ J3 (stat fr3) t3 go) fun r s4 ⟨u, hr, h4⟩ => ?_
      subst hr
      refine thnF h4 fun _ s5 ⟨x, H5, J5, r5, y5, t5, fr5⟩ => ?_
      have J5' := J5.pinned (stat fr5) (T.obj _ _ t5)
      refine thnF (hg _ _ _ _ _ s5 _ H5 x u _ J5' r5 (ho _ _ _ _ (step x H5 y5))) fun _ s6 ⟨σ6, H6, J6, q6, hl6, ho6⟩ => ?_
      have again : ∀ {s7 : Shared} {H7 : Hp}, Inv (X.comp scope P2.objs.size N s2 H2 fp fun _ _ => False) ([] ++ pinsAt fp s5.heap) σ6 H7 s7 → (∃ m', m' < n ∧ W (i + 1) m' H7) →
          ∃ m, m < n ∧ ∃ i H', Inv (X.comp scope P2.objs.size N s2 H2 fp fun _ _ => False) [] (capt own js σ) H' s7 ∧ tn i s7.heap ∧ (∀ b ∈ fp, H' b = none) ∧ W i m H' := fun {s7 H7} J7 z => by
        obtain ⟨m', hm, w7⟩ := z
        refine ⟨m', hm, i + 1, H7, J7.unpinned.weak (by rw [hl6]) (fun k v z => ?_), T.keep _ _ _ t5 fun b hb o e => (J7.pin (b, o) (List.mem_append_right _ (List.mem_append_right _ (mem_pinsAt hb e)))).1, fun b hb => ?_, w7⟩
        · rw [ho6 k (capt_some z).1]
          exact z
        · obtain ⟨o, e, d⟩ := T.obj _ _ t5 b hb
          exact (J7.pin (b, o) (List.mem_append_right _ (List.mem_append_right _ (mem_pinsAt hb e)))).2.1
      refine thnF (ht _ _ _ _ _ s6 σ6 H6 _ J6 q6) fun ok s7 ⟨H7, J7, q7⟩ => ?_
      cases ok with
      | false => exact again J7 q7
      | true =>
        refine thnF (he _ _ _ _ _ s7 σ6 H7 _ J7 q7) fun y s8 ⟨yv, H8, J8, r8, q8⟩ => ?_
        exact thnF (mt_append _ s8 σ6 H8 (.ref s2.heap.objs.size) [yv] (.ref s2.heap.objs.size) [y] _ J8 rfl (.cons r8 .nil) q8) fun _ s9 ⟨_, H9, J9, _, q9⟩ => again J9 q9
  exact codeAny_compStart_list (loop _ rfl) (T.self X.A 0 _ _ _ st3 (loop _ rfl))

/-- [elt for tg in iter if ..] -/
theorem pe_comp {X : Cx} {elt tg iter : Expr} {ifs : List Expr} {scope : Scope} {pos : Pos} {N : List Str} {own : Nat} {js : List Nat} {wi : TI} {g : TG} {ti : TT} {te : TE} (hc : X.calm = true)
    (hcell : ∀ y ∈ scope.names, y.2 ≠ .cell) (hkind : scope.kind = .function) (hnames : ∀ y ∈ scope.names, y.2 = .local → scope.names.lookup y.1 = some .local)
    (hfree : ∀ y ∈ scope.names, y.2 = .free → X.env.kindOf y.1 = some .cell ∨ X.env.kindOf y.1 = some .free) (hlen : N.length = own + js.length)
    (hcap : ∀ (i j : Nat) (x : Str), js[i]? = some j → N[own + i]? = some x → X.N[j]? = some x ∧ (x, NameKind.free) ∈ scope.names ∧ (X.env.kindOf x = some .cell ∨ X.env.kindOf x = some .free) ∧ ((relabel scope X.env).names.lookup x = some .cell ∨ (relabel scope X.env).names.lookup x = some .free))
    (hi : PI X tg iter wi) (hg : ∀ C s₀ H₀ ex, PG (X.comp scope C N s₀ H₀ ex fun _ _ => False) tg g) (ho : OwnG own g) (ht : ∀ C s₀ H₀ ex, PIfs (X.comp scope C N s₀ H₀ ex fun _ _ => False) ifs ti) (he : ∀ C s₀ H₀ ex, PE (X.comp scope C N s₀ H₀ ex fun _ _ => False) elt te)
    (hs : ∀ x, foldedSetIterable iter X.env x = pure x := by intro _; rfl) : PE X (.ListComp elt [⟨tg, iter, ifs, 0⟩] scope pos) (tComp own js wi g ti te) := by
  intro pins s σ H Q I h
  rw [eval_ListComp]
  refine comp_core hc hcell hkind hnames hfree hlen hcap hi hg ho ht he I h (use := none) (fun acc C H3 s4 m I5 hn c1 c2 c3 c4 c5 c6 q => ?_) hs
  refine ⟨m, hn, fun h' sb => ⟨.ref acc, H3, ?_, rfl, q⟩⟩
  exact I5.turned (t' := s4.toks) (it := C) (fun b o hb e => (sb.2 b hb).trans e) c1 c2 (.inr c4) c5 c6
/-- name = [elt for tg in iter if ..] -/
theorem ps_setc {X : Cx} {i : Nat} {y : Str} {py spos : Pos} {elt tg iter : Expr} {ifs : List Expr} {scope : Scope} {pos : Pos} {N : List Str} {own : Nat} {js : List Nat} {wi : TI} {g : TG} {ti : TT} {te : TE} (hN : X.N.Nodup) (hi' : X.N[i]? = some y) (hy : Loc X.env.scope y) (hf : X.fn y = true ∨ X.env.scope.names.lookup y = some .local)
    (hc : X.calm = true)
    (hcell : ∀ y ∈ scope.names, y.2 ≠ .cell) (hkind : scope.kind = .function) (hnames : ∀ y ∈ scope.names, y.2 = .local → scope.names.lookup y.1 = some .local)
    (hfree : ∀ y ∈ scope.names, y.2 = .free → X.env.kindOf y.1 = some .cell ∨ X.env.kindOf y.1 = some .free) (hlen : N.length = own + js.length)
    (hcap : ∀ (i j : Nat) (x : Str), js[i]? = some j → N[own + i]? = some x → X.N[j]? = some x ∧ (x, NameKind.free) ∈ scope.names ∧ (X.env.kindOf x = some .cell ∨ X.env.kindOf x = some .free) ∧ ((relabel scope X.env).names.lookup x = some .cell ∨ (relabel scope X.env).names.lookup x = some .free))
    (hi : PI X tg iter wi) (hg : ∀ C s₀ H₀ ex, PG (X.comp scope C N s₀ H₀ ex fun _ _ => False) tg g) (ho : OwnG own g) (ht : ∀ C s₀ H₀ ex, PIfs (X.comp scope C N s₀ H₀ ex fun _ _ => False) ifs ti) (he : ∀ C s₀ H₀ ex, PE (X.comp scope C N s₀ H₀ ex fun _ _ => False) elt te)
    (hsw : swapsWith (.ListComp elt [⟨tg, iter, ifs, 0⟩] scope pos) (some (.Name y py)) spos.line X.env = pure true := by rfl)
    (hs : ∀ x, foldedSetIterable iter X.env x = pure x := by intro _; rfl) : PS X (.Assign [.Name y py] (.ListComp elt [⟨tg, iter, ifs, 0⟩] scope pos) spos) (tAsg (tComp own js wi g ti te) (gName i)) := by
  intro pins s σ H D I h
  rw [exec_Assign_Name_used _ _ _ _ hsw]
  refine wpAny_bind (wpAny_standAt (wpAny_bind ?_))
  show wpAny _ X.A (do let _ ← comprehension (.ListComp elt [⟨tg, iter, ifs, 0⟩] scope pos) scope X.env _ (newList []) false (eval iter X.env) (some (assign (.Name y py) X.env))) _ _ s
  refine wpAny_bind (wpAny_mono (comp_core hc hcell hkind hnames hfree hlen hcap hi hg ho ht he I h (use := some (assign (.Name y py) X.env)) (RQ := fun _ s' => SP X pins D .next s') (fun acc C H3 s4 m I5 hn c1 c2 c3 c4 c5 c6 q => ?_) hs) (fun _ s' hq => wpAny_pure (wpAny_pure hq)) fun _ _ e => e)
  show wpAny _ X.A (assign (.Name y py) X.env (.ref acc)) _ _ _
  obtain ⟨o, es, ep, ho', hd, hr⟩ := hn
  have I6 : Inv X (pins ++ [(C, o)]) σ H3 s4 := I5.pins_of fun p hp => by
    rcases List.mem_append.mp hp with z | z
    · exact I5.pin p (List.mem_append_right _ z)
    · rw [List.mem_singleton.mp z]
      exact ⟨ho', c1, c2, c3, fun v z => by rw [hd] at z; cases z⟩
  refine wpAny_assign_Name (store_ok I6 hN hi' hy (v := .ref acc) rfl (fun s' I7 => ?_) hf)
  have hp := I7.pin (C, o) (List.mem_append_right _ (List.mem_append_right _ (by simp)))
  refine ⟨m, ⟨o, es, ep, hp.1, hd, hr⟩, fun h' sb => ⟨_, H3, ?_, q⟩⟩
  exact I7.unpinned.turned (t' := s'.toks) (it := C) (fun b o hb e => (sb.2 b hb).trans e) c1 c2 (.inr c4) c5 c6
end L2
/-! ### the comprehension's rules with one check over the written text -/
namespace L2
open PySem PySem.Spec PyProof.Rows
def compOk (XN : List Str) (sc scope : Scope) (own : Nat) (js : List Nat) (N : List Str) : Bool :=
  (scope.names.all fun y => decide (y.2 ≠ .cell) && (decide (y.2 ≠ .local) || decide (scope.names.lookup y.1 = some .local)) && (decide (y.2 ≠ .free) || decide (sc.names.lookup y.1 = some .cell) || decide (sc.names.lookup y.1 = some .free))) &&
    decide (scope.kind = .function) && decide (N.length = own + js.length) &&
    (List.range js.length).all fun i => match js[i]?, N[own + i]? with
      | some j, some x => decide (XN[j]? = some x) && decide (scope.names.lookup x = some .free) && (decide (sc.names.lookup x = some .cell) || decide (sc.names.lookup x = some .free))
      | _, _ => false
theorem lookup_relabel_free {env : Env} : ∀ {names : List (Str × NameKind)} {x : Str}, names.lookup x = some .free →
    (names.map fun (n, k) => if (k == NameKind.free && env.scope.kind == .function && env.kindOf n == some .cell) then (n, NameKind.cell) else (n, k)).lookup x = some .cell ∨
    (names.map fun (n, k) => if (k == NameKind.free && env.scope.kind == .function && env.kindOf n == some .cell) then (n, NameKind.cell) else (n, k)).lookup x = some .free
  | [], _, h => by simp at h
  | (n, k) :: r, x, h => by
    have ih := @lookup_relabel_free env r x
    rw [List.map_cons, List.lookup_cons]
    rw [List.lookup_cons] at h
    by_cases hc : (k == NameKind.free && env.scope.kind == .function && env.kindOf n == some .cell) = true
    · rw [if_pos hc]
      dsimp only
      cases hx : x == n with
      | true => exact .inl rfl
      | false =>
        rw [hx] at h
        exact ih h
    · rw [if_neg hc]
      dsimp only
      cases hx : x == n with
      | true =>
        rw [hx] at h
        exact .inr h
      | false =>
        rw [hx] at h
        exact ih h
structure CompOk (XN : List Str) (sc scope : Scope) (own : Nat) (js : List Nat) (N : List Str) : Prop where
  cell : ∀ y ∈ scope.names, y.2 ≠ .cell
  names : ∀ y ∈ scope.names, y.2 = .local → scope.names.lookup y.1 = some .local
  free : ∀ y ∈ scope.names, y.2 = .free → sc.names.lookup y.1 = some .cell ∨ sc.names.lookup y.1 = some .free
  kind : scope.kind = .function
  len : N.length = own + js.length
  cap : ∀ (i j : Nat) (x : Str), js[i]? = some j → N[own + i]? = some x → XN[j]? = some x ∧ scope.names.lookup x = some .free ∧ (sc.names.lookup x = some .cell ∨ sc.names.lookup x = some .free)
theorem compOk_of {XN : List Str} {sc scope : Scope} {own : Nat} {js : List Nat} {N : List Str} (h : compOk XN sc scope own js N = true) : CompOk XN sc scope own js N := by
  unfold compOk at h
  rw [Bool.and_eq_true, Bool.and_eq_true, Bool.and_eq_true] at h
  obtain ⟨⟨⟨h1, h2⟩, h3⟩, h4⟩ := h
  rw [List.all_eq_true] at h1 h4
  refine ⟨fun y hy => ?_, fun y hy e => ?_, fun y hy e => ?_, of_decide_eq_true h2, of_decide_eq_true h3, fun i j x a b => ?_⟩
  · have := h1 y hy
    rw [Bool.and_eq_true, Bool.and_eq_true] at this
    exact of_decide_eq_true this.1.1
  · have := h1 y hy
    rw [Bool.and_eq_true, Bool.and_eq_true, Bool.or_eq_true] at this
    rcases this.1.2 with z | z
    · exact absurd e (of_decide_eq_true z)
    · exact of_decide_eq_true z
  · have := h1 y hy
    rw [Bool.and_eq_true, Bool.and_eq_true, Bool.or_eq_true, Bool.or_eq_true, Bool.or_eq_true] at this
    rcases this.2 with (z | z) | z
    · exact absurd e (of_decide_eq_true z)
    · exact .inl (of_decide_eq_true z)
    · exact .inr (of_decide_eq_true z)
  · have hi : i < js.length := (List.getElem?_eq_some_iff.mp a).1
    have := h4 i (List.mem_range.mpr hi)
    rw [a, b] at this
    dsimp only at this
    rw [Bool.and_eq_true, Bool.and_eq_true, Bool.or_eq_true] at this
    exact ⟨of_decide_eq_true this.1.1, of_decide_eq_true this.1.2, this.2.imp of_decide_eq_true of_decide_eq_true⟩
section
variable {X : Cx} {XN : List Str} {sc scope : Scope} {elt tg iter : Expr} {ifs : List Expr} {pos : Pos} {N : List Str} {own : Nat} {js : List Nat} {wi : TI} {g : TG} {ti : TT} {te : TE}
theorem pe_compB (hc : X.calm = true) (ok : compOk XN sc scope own js N = true) (hsc : X.env.scope = sc) (hXN : X.N = XN) (hi : PI X tg iter wi) (hg : ∀ C s₀ H₀ ex, PG (X.comp scope C N s₀ H₀ ex fun _ _ => False) tg g) (ho : OwnG own g)
    (ht : ∀ C s₀ H₀ ex, PIfs (X.comp scope C N s₀ H₀ ex fun _ _ => False) ifs ti) (he : ∀ C s₀ H₀ ex, PE (X.comp scope C N s₀ H₀ ex fun _ _ => False) elt te)
    (hs : ∀ x, foldedSetIterable iter X.env x = pure x := by intro _; rfl) : PE X (.ListComp elt [⟨tg, iter, ifs, 0⟩] scope pos) (tComp own js wi g ti te) := by
  obtain ⟨h1, h2, h3, h4, h5, h6⟩ := compOk_of ok
  subst hsc hXN
  refine pe_comp hc h1 h4 h2 h3 h5 (fun i j x a b => ?_) hi hg ho ht he hs
  obtain ⟨z1, z2, z3⟩ := h6 i j x a b
  exact ⟨z1, PySem.mem_of_lookup z2, z3, lookup_relabel_free z2⟩
theorem ps_setcB {i : Nat} {y : Str} {py spos : Pos} (hN : X.N.Nodup) (hi' : X.N[i]? = some y) (hy : Loc X.env.scope y) (hf : X.fn y = true ∨ X.env.scope.names.lookup y = some .local) (hc : X.calm = true) (ok : compOk XN sc scope own js N = true) (hsc : X.env.scope = sc) (hXN : X.N = XN) (hi : PI X tg iter wi)
    (hg : ∀ C s₀ H₀ ex, PG (X.comp scope C N s₀ H₀ ex fun _ _ => False) tg g) (ho : OwnG own g)
    (ht : ∀ C s₀ H₀ ex, PIfs (X.comp scope C N s₀ H₀ ex fun _ _ => False) ifs ti) (he : ∀ C s₀ H₀ ex, PE (X.comp scope C N s₀ H₀ ex fun _ _ => False) elt te)
    (hsw : swapsWith (.ListComp elt [⟨tg, iter, ifs, 0⟩] scope pos) (some (.Name y py)) spos.line X.env = pure true := by rfl)
    (hs : ∀ x, foldedSetIterable iter X.env x = pure x := by intro _; rfl) : PS X (.Assign [.Name y py] (.ListComp elt [⟨tg, iter, ifs, 0⟩] scope pos) spos) (tAsg (tComp own js wi g ti te) (gName i)) := by
  obtain ⟨h1, h2, h3, h4, h5, h6⟩ := compOk_of ok
  subst hsc hXN
  refine ps_setc hN hi' hy hf hc h1 h4 h2 h3 h5 (fun i j x a b => ?_) hi hg ho ht he hsw hs
  obtain ⟨z1, z2, z3⟩ := h6 i j x a b
  exact ⟨z1, PySem.mem_of_lookup z2, z3, lookup_relabel_free z2⟩
end
/-- over a list that stays -/
theorem comp_list {K : PySem.W.Frag} {a : Addr} {xs : List V} {own : Nat} {js : List Nat} {g : TG} {ti : TT} {te : TE} {σ : St} {H1 : Hp} {acc : Addr} {Q : VK} (Pv : Nat → Hp → Prop) (h0 : Pv 0 (upd H1 acc (.lst []))) (hl : ∀ i H2, i ≤ xs.length → Pv i H2 → SqL K H2 a xs)
    (hs : ∀ i x H2, xs[i]? = some x → Pv i H2 → g x (capt own js σ) H2 fun σ4 H4 => ti σ4 H4 fun b H5 => if b = true then te σ4 H5 fun y H6 => rAppend (.ref acc) [y] H6 fun _ H7 => Pv (i + 1) H7 else Pv (i + 1) H5) (hd : ∀ H2, Pv xs.length H2 → Q (.ref acc) H2)
    (mono : ∀ σ H (R R' : St → Hp → Prop) x, (∀ σ' H', R σ' H' → R' σ' H') → g x σ H R → g x σ H R') (monoT : ∀ σ H (R R' : Bool → Hp → Prop), (∀ b H', R b H' → R' b H') → ti σ H R → ti σ H R') (monoE : ∀ σ H (R R' : VK), (∀ v H', R v H' → R' v H') → te σ H R → te σ H R') :
    CompW (Itl K a) own js g ti te σ H1 acc Q := by
  refine ⟨fun i m H2 => m = xs.length - i ∧ i ≤ xs.length ∧ Pv i H2, ⟨xs.length, by simp, Nat.zero_le _, h0⟩, ?_⟩
  rintro i m H2 ⟨rfl, hi, p⟩
  have q := hl i H2 hi p
  by_cases hlt : i < xs.length
  · refine .inr ⟨⟨xs, xs[i], q, by simp [hlt]⟩, fun x H3 y => ?_⟩
    obtain ⟨e1, y⟩ := y
    subst e1
    refine mono _ _ _ _ _ (fun σ4 H4 q => monoT _ _ _ _ (fun b H5 q => ?_) q) (hs i x _ (y xs q) p)
    cases b with
    | true =>
      refine monoE _ _ _ _ (fun v H6 q => ?_) q
      obtain ⟨l, xs, y, a1, a2, a3, a4, a5⟩ := q
      exact ⟨l, xs, y, a1, a2, a3, a4, _, by omega, rfl, hlt, a5⟩
    | false => exact ⟨_, by omega, rfl, hlt, q⟩
  · have e : i = xs.length := by omega
    subst e
    exact .inl ⟨⟨xs, q, Nat.le_refl _⟩, hd H2 p⟩
theorem mono_name {i : Nat} : ∀ (σ : St) (H : Hp) (R R' : St → Hp → Prop) (x : V), (∀ σ' H', R σ' H' → R' σ' H') → gName i x σ H R → gName i x σ H R' := fun _ _ _ _ _ k h => k _ _ h
theorem yesN {A B : St → Hp → Prop} {i : Nat} {x : V} {σ : St} {H : Hp} (h : A (σ.set i (some x)) H) : gName i x σ H fun σ4 H4 => tYes σ4 H4 fun b H5 => if b = true then A σ4 H5 else B σ4 H5 := by
  show if true = true then A (σ.set i (some x)) H else B (σ.set i (some x)) H
  rw [if_pos rfl]
  exact h
theorem ixN_nat {n i : Nat} (h : i < n) : ixN n (i : Int) = some i := by
  unfold ixN
  rw [if_pos (by omega), if_pos (by omega), Int.toNat_natCast]
theorem mono_yes : ∀ (σ : St) (H : Hp) (R R' : Bool → Hp → Prop), (∀ b H', R b H' → R' b H') → tYes σ H R → tYes σ H R' := fun _ _ _ _ k h => k _ _ h
end L2
/-! ### rules that name the written part, for a comprehension's block -/
namespace L2
open PySem PySem.Spec PyProof.Rows
section
variable {X : Cx} {K : PySem.W.Frag}
end
end L2
/-! ### ==, != of ints, lists, tuples at any depth; sum; // by larger numbers -/
namespace L2
open PySem PySem.Spec PyProof.Rows
/-- what == tells, d deep -/
inductive EqR (K : PySem.W.Frag) (H : Hp) : Nat → V → V → Bool → Prop where
  | int (d : Nat) (i j : Int) : EqR K H d (.int i) (.int j) (decide (i = j))
  | lists {d : Nat} {a b : Addr} {xs ys : List V} (es : Nat → Bool) (h1 : SqL K H a xs) (h2 : SqL K H b ys) (hl : xs.length = ys.length) (he : ∀ (j : Nat) x y, xs[j]? = some x → ys[j]? = some y → EqR K H d x y (es j)) : EqR K H (d + 1) (.ref a) (.ref b) ((List.range xs.length).all es)
  | lens {d : Nat} {a b : Addr} {xs ys : List V} (h1 : SqL K H a xs) (h2 : SqL K H b ys) (hl : xs.length ≠ ys.length) : EqR K H (d + 1) (.ref a) (.ref b) false
  | tuples {d : Nat} {a b : Addr} {xs ys : List V} (es : Nat → Bool) (h1 : SqT K H a xs) (h2 : SqT K H b ys) (he : ∀ (j : Nat) x y, xs[j]? = some x → ys[j]? = some y → EqR K H d x y (es j)) : EqR K H (d + 1) (.ref a) (.ref b) ((List.range (min xs.length ys.length)).all es && xs.length == ys.length)
section
variable {X : Cx} {pins : List (Addr × Obj)} {σ : St} {H : Hp} {s : Shared}
theorem EqR.same (I : Inv X pins σ H s) {d : Nat} {x y : V} {e : Bool} (h : EqR X.K H d x y e) : x = y → e = true := by
  induction h with
  | int d i j => intro q; cases q; simp
  | lists es h1 h2 hl he ih =>
    intro q
    cases q
    have z := I.list_inj h1 h2
    subst z
    rw [List.all_eq_true]
    intro j hj
    rw [List.mem_range] at hj
    have hx := List.getElem?_eq_getElem hj
    exact ih j _ _ hx hx rfl
  | lens h1 h2 hl =>
    intro q
    cases q
    exact absurd (congrArg List.length (I.list_inj h1 h2)) hl
  | @tuples d a b xs ys es h1 h2 he ih =>
    intro q
    cases q
    have z := I.tuple_inj h1 h2
    subst z
    rw [Bool.and_eq_true]
    refine ⟨?_, by simp⟩
    rw [List.all_eq_true]
    intro j hj
    rw [List.mem_range, Nat.min_self] at hj
    have hx := List.getElem?_eq_getElem hj
    exact ih j _ _ hx hx rfl
theorem units_in1 (A : Around) : A.in1.units = A.units + 1 := rfl
theorem EqR.at_ (I : Inv X pins σ H s) {d : Nat} {x y : V} {e : Bool} (h : EqR X.K H d x y e) : ∀ {A : Around} {u v : Value}, A.units + d < cLine → RelV x u → RelV y v → SeqAt.RcAt A s u v e ∧ SeqAt.RcNeAt A s u v (!e) ∧ SeqAt.EqAt A s u v e := by
  induction h with
  | int d i j =>
    intro A u v hu ru rv
    obtain ⟨t, rfl⟩ := ru
    obtain ⟨t', rfl⟩ := rv
    have e : decide (i = j) = (i == j) := by rw [Bool.beq_eq_decide_eq]
    rw [e]
    exact ⟨SeqAt.RcAt.int_int i t j t', SeqAt.RcNeAt.int_int i t j t', SeqAt.EqAt.int_int i t j t'⟩
  | @lists d a b xs ys es h1 h2 hl he ih =>
    intro A u v hu ru rv
    obtain rfl : u = Value.ref a := ru
    obtain rfl : v = Value.ref b := rv
    obtain ⟨is, r1, p1, z1⟩ := I.list h1
    obtain ⟨js, r2, p2, z2⟩ := I.list h2
    have l1 := r1.length
    have l2 := r2.length
    have ln : xs.length = is.toArray.size := by simpa using l1
    have sz : is.toArray.size = js.toArray.size := by simp only [List.size_toArray]; omega
    have it : ∀ j (q1 : j < is.toArray.size) (q2 : j < js.toArray.size), SeqAt.EqAt A.in1 s is.toArray[j] js.toArray[j] (es j) := fun j q1 q2 => by
      simp only [List.size_toArray] at q1 q2
      have hx : xs[j]? = some xs[j] := List.getElem?_eq_getElem (by omega)
      have hy : ys[j]? = some ys[j] := List.getElem?_eq_getElem (by omega)
      obtain ⟨u1, e1, ru1⟩ := r1.get hx
      obtain ⟨u2, e2, ru2⟩ := r2.get hy
      have g1 : is.toArray[j] = u1 := by
        rw [List.getElem?_eq_getElem q1] at e1
        simpa using Option.some.inj e1
      have g2 : js.toArray[j] = u2 := by
        rw [List.getElem?_eq_getElem q2] at e2
        simpa using Option.some.inj e2
      rw [g1, g2]
      exact (ih j _ _ hx hy (by rw [units_in1]; omega) ru1 ru2).2.2
    rw [ln]
    have R := SeqAt.RcAt.lists (A := A) p1.isList p2.isList sz (by omega) it
    refine ⟨R, SeqAt.RcNeAt.lists p1.isList p2.isList sz (by omega) it, ?_⟩
    by_cases q : a = b
    · subst q
      have := (EqR.lists es h1 h2 hl he).same I rfl
      rw [ln] at this
      rw [this]
      exact SeqAt.EqAt.same _
    · exact SeqAt.EqAt.of_refs q R
  | @lens d a b xs ys h1 h2 hl =>
    intro A u v hu ru rv
    obtain rfl : u = Value.ref a := ru
    obtain rfl : v = Value.ref b := rv
    obtain ⟨is, r1, p1, z1⟩ := I.list h1
    obtain ⟨js, r2, p2, z2⟩ := I.list h2
    have l1 := r1.length
    have l2 := r2.length
    have sz : (is.toArray.size != js.toArray.size) = true := by
      simp only [List.size_toArray, bne_iff_ne, ne_eq]
      omega
    have R := SeqAt.RcAt.lists_lengths (A := A) p1.isList p2.isList sz (by omega)
    refine ⟨R, SeqAt.RcNeAt.lists_lengths p1.isList p2.isList sz (by omega), ?_⟩
    by_cases q : a = b
    · subst q
      exact absurd (congrArg List.length (I.list_inj h1 h2)) hl
    · exact SeqAt.EqAt.of_refs q R
  | @tuples d a b xs ys es h1 h2 he ih =>
    intro A u v hu ru rv
    obtain rfl : u = Value.ref a := ru
    obtain rfl : v = Value.ref b := rv
    obtain ⟨is, r1, p1, z1⟩ := I.tuple h1
    obtain ⟨js, r2, p2, z2⟩ := I.tuple h2
    have l1 := r1.length
    have l2 := r2.length
    have ln : xs.length = is.toArray.size := by simpa using l1
    have ln2 : ys.length = js.toArray.size := by simpa using l2
    have it : ∀ j (q1 : j < is.toArray.size) (q2 : j < js.toArray.size), SeqAt.EqAt A.in1 s is.toArray[j] js.toArray[j] (es j) := fun j q1 q2 => by
      simp only [List.size_toArray] at q1 q2
      have hx : xs[j]? = some xs[j] := List.getElem?_eq_getElem (by omega)
      have hy : ys[j]? = some ys[j] := List.getElem?_eq_getElem (by omega)
      obtain ⟨u1, e1, ru1⟩ := r1.get hx
      obtain ⟨u2, e2, ru2⟩ := r2.get hy
      have g1 : is.toArray[j] = u1 := by
        rw [List.getElem?_eq_getElem q1] at e1
        simpa using Option.some.inj e1
      have g2 : js.toArray[j] = u2 := by
        rw [List.getElem?_eq_getElem q2] at e2
        simpa using Option.some.inj e2
      rw [g1, g2]
      exact (ih j _ _ hx hy (by rw [units_in1]; omega) ru1 ru2).2.2
    rw [ln, ln2]
    have R := SeqAt.RcAt.tuples (A := A) (show s.heap.IsTuple a is.toArray from p1) (show s.heap.IsTuple b js.toArray from p2) (by omega) it
    refine ⟨R, SeqAt.RcNeAt.tuples (show s.heap.IsTuple a is.toArray from p1) (show s.heap.IsTuple b js.toArray from p2) (by omega) it, ?_⟩
    by_cases q : a = b
    · subst q
      have := (EqR.tuples es h1 h2 he).same I rfl
      rw [ln, ln2] at this
      rw [this]
      exact SeqAt.EqAt.same _
    · exact SeqAt.EqAt.of_refs q R
/-- sum of a list of ints -/
theorem call_sum (hc : X.calm = true) : CallR X (.builtin "sum") (fun xs H Q => ∃ (p : Addr) (ns : List Int), xs = [.ref p] ∧ SqL X.K H p (ns.map V.int) ∧ Q (.int ns.sum) H) := by
  intro pins s σ H xs us Q I r h
  obtain ⟨p, ns, rfl, hq, q⟩ := h
  obtain ⟨u, rfl, rx⟩ := vals1 r
  cases rx
  obtain ⟨its, r', pl, hz⟩ := I.list hq
  have hi : IntsAre its ns := intsAre_of r'
  obtain ⟨ys, e⟩ := hi.allInts.items
  have hl := pl.isList
  rw [e] at hl
  refine sum_intListG (I.ok.hd hc) hl fun h' tk t' hk => ⟨.int ns.sum, H, I.kept hk, ⟨t', ?_⟩, q⟩
  have n1 := hi.numsOf
  rw [show its = its.toArray.toList from rfl, e, nums_intItems] at n1
  rw [preSum_eq, List.take_of_length_le (by simp), n1]
/-- // by a number of at most 512 bits -/
def CDB (_ j : Int) : Prop := j ≠ 0 ∧ j.natAbs < 2 ^ 512
theorem op_fdivB : OpR X (binaryOp .FloorDiv) (rI CDB fun i j => .int (i.fdiv j)) := opI fun i j _ _ _ _ _ hc q => floordiv_int hc.1 q (.inl (PyProof.noPylong_of_log2 (by
  have h0 : j.natAbs ≠ 0 := by have := hc.1; omega
  have := (Nat.log2_lt h0).mpr hc.2
  omega)))
end
end L2
/-! ### reversed(xs) of a list: as a list, as a loop's source -/
namespace L2
open PySem PySem.Spec PyProof.Rows
section
variable {prog : Program} {w : World} {A : Around} {E : Value → Shared → Prop} {s : Shared}
end
section
variable {X : Cx} {e : Expr} {te : TE} {p1 p2 p3 pos : Pos}
end
end L2
/-! ### for i, x in enumerate(xs) -/
namespace L2
open PySem PySem.Spec PyProof.Rows
/-- at turn i a new tuple (i, x) -/
def Ite (K : PySem.W.Frag) (a : Addr) : It :=
  ⟨fun i H => ∃ xs x, SqL K H a xs ∧ xs[i]? = some x, fun i H v H' => ∃ x p, (∀ xs, SqL K H a xs → xs[i]? = some x) ∧ v = .ref p ∧ H p = none ∧ H' = upd H p (.tup [.int i, x]), fun i H => ∃ xs, SqL K H a xs ∧ xs.length ≤ i⟩
theorem turn_enum {P : Program} {w : World} {K : PySem.W.Frag} {elts : List Expr} {k : Nat} {pos : Pos} (a e it : Addr) (hne : e ≠ it) :
    Turn P w K (.Tuple elts k pos) (Ite K a) [e, it] e (fun i h => (∃ old, IsEnum h e it (i : Nat) old) ∧ h.IsListIter it a i) where
  mem := by simp
  obj := fun i h st b hb => by
    obtain ⟨⟨old, h1⟩, o, h2, h3, h4⟩ := st
    rcases List.mem_cons.mp hb with z | z
    · subst z
      exact ⟨_, h1, fun v y => by cases y⟩
    · rw [List.mem_singleton.mp z]
      exact ⟨o, h2, fun v y => by rw [h4] at y; cases y⟩
  keep := fun i h h' st kk => ⟨st.1.imp fun old z => kk e (by simp) _ z, st.2.at fun o z => kk it (by simp) o z⟩
  item := by
    intro X hP hw hK hc i pins s σ H E I hf st hg
    subst hP hw hK
    obtain ⟨xs, x, hq, hx⟩ := hg
    obtain ⟨its, rv, p, hz⟩ := I.list hq
    obtain ⟨u, hu, ru⟩ := rv.get hx
    obtain ⟨⟨old, he⟩, hit⟩ := st
    have nf : H s.heap.objs.size = none := I.hok.fresh (Nat.le_refl _)
    have ltE : e < s.heap.objs.size := Heap.lt_size he
    refine wpAny_pyNext_enum_item he hit p.isList (x := u) (by simpa using hu) hne fun h' ho hit' hT hsz hk => ⟨.ref s.heap.objs.size, rfl, ?_⟩
    refine wpAny_letOwnedTupleGo_enum ho fun h2 he2 sb => ?_
    have k2 : ∀ b o, b ≠ e → b ≠ it → s.heap.get? b = some o → h2.get? b = some o := fun b o n1 n2 z => (sb.2 b n1).trans (hk b o n1 n2 z)
    have hT2 : h2.get? s.heap.objs.size = some { cls := .type "tuple", data := .seq #[.int i s.toks, u] } := (sb.2 _ (Nat.ne_of_gt ltE)).trans hT
    have hch : ∀ b, b ∉ [e, it] → b ≠ e ∧ b ≠ it := fun b z => ⟨fun y => z (by simp [y]), fun y => z (by simp [y])⟩
    refine ⟨.ref s.heap.objs.size, upd H s.heap.objs.size (.tup [.int i, x]), ?_, rfl, ⟨x, _, fun ys hy => by rw [I.list_inj hy hq]; exact hx, rfl, nf, rfl⟩, ⟨⟨u, by simpa using he2⟩, hit'.at fun o z => (sb.2 it hne.symm).trans z⟩, fun b hb => ?_⟩
    · refine I.step (s := s) (h' := h2) (g' := s.gens) (d' := s.drawn) (t' := s.toks + 1) (ch := [e, it]) (fun b hb => ?_) (fun b o _ _ c z _ => k2 b o (hch b c).1 (hch b c).2 z) (fun b o _ _ c z _ => ⟨o.slots, k2 b o (hch b c).1 (hch b c).2 z⟩)
        (fun b o c z n => ?_) (fun b o c z => ⟨o, k2 b o (hch b c).1 (hch b c).2 z⟩) (fun b ys z => ?_) (fun b o v z => ?_) (fun b ps z => ⟨#[], ?_⟩) (fun m hm => ?_) (fun b v z => ?_) I.bare
      · obtain ⟨a1, a2, a3, a4, a5, a6⟩ := hf b hb
        exact ⟨a4, a2, a5, a6⟩
      · rw [upd_ne (Nat.ne_of_lt (Heap.lt_size z))]
        exact n
      · rw [upd_ne (ne_of_none z nf)]
        exact z
      · rw [upd_ne (ne_of_none z nf)]
        exact z
      · rw [upd_ne (ne_of_none z nf), z]
        simp
      · obtain ⟨o, es, ep, ho', r⟩ := hm
        exact ⟨o, es, ep, k2 _ o (fun y => (hf e (by simp)).2.1 y.symm) (fun y => (hf it (by simp)).2.1 y.symm) ho', r⟩
      · by_cases hb : b = s.heap.objs.size
        · subst hb
          rw [upd_same] at z
          cases z
          exact ⟨by show 2 ≤ sizeLine; decide, [.int i s.toks, u], .cons ⟨_, rfl⟩ (.cons ru .nil), ⟨_, hT2, rfl, _, rfl⟩⟩
        · rw [upd_ne hb] at z
          refine (I.hok b v z).stay (fun c o hc y => k2 c o ?_ ?_ y) (fun c y => ?_) fun c ys y => ?_
          · rcases hc with q | q
            · rw [q]; exact fun y => by rw [y, (hf e (by simp)).1] at z; cases z
            · exact fun y => by rw [y, (hf e (by simp)).1] at q; cases q
          · rcases hc with q | q
            · rw [q]; exact fun y => by rw [y, (hf it (by simp)).1] at z; cases z
            · exact fun y => by rw [y, (hf it (by simp)).1] at q; cases q
          · rw [upd_ne (ne_of_none y nf)]; exact y
          · rw [upd_ne (ne_of_none y nf)]; exact y
    · obtain ⟨o, z, _⟩ := (show ∃ o, s.heap.get? b = some o ∧ True from by
        rcases List.mem_cons.mp hb with q | q
        · rw [q]; exact ⟨_, he, trivial⟩
        · rw [List.mem_singleton.mp q]
          obtain ⟨o, y, _⟩ := hit
          exact ⟨o, y, trivial⟩)
      rw [upd_ne (Nat.ne_of_lt (Heap.lt_size z))]
      exact (hf b hb).1
  done := by
    intro X hP hw hK hc i pins s σ H E I hf st hg
    subst hP hw hK
    obtain ⟨xs, hq, hx⟩ := hg
    obtain ⟨its, rv, p, hz⟩ := I.list hq
    obtain ⟨⟨old, he⟩, hit⟩ := st
    have hl := rv.length
    obtain ⟨f0, f1, f2, f3, f4, f5⟩ := hf it (by simp)
    exact wpAny_pyNext_enum_end (I.ok.hd hc) he hit p.isList (by simp; omega) fun h' eb => ⟨rfl, I.turned (t' := s.toks) (fun b o hb z => eb b o hb z) f0 f1 f3 f4 f5⟩
  self := fun _ _ _ _ _ st h => let ⟨⟨_, z⟩, _⟩ := st; wpAny_pyIter_enum z h
section
variable {X : Cx} {elts : List Expr} {k : Nat} {tpos p pos : Pos} {e : Expr} {te : TE}
def iEnum (K : PySem.W.Frag) (tl : TE) : TI := fun σ H R => tl σ H fun x H1 => ∃ a, x = .ref a ∧ (∃ xs, SqL K H1 a xs) ∧ R (Ite K a) H1
theorem pi_enum (hg : Gl X "enumerate") (hm : X.mg "enumerate" = none) (hl : PE X e te) (he : starEach [e] X.env = [(false, eval e X.env)] := by rfl) : PI X (.Tuple elts k tpos) (.Call (.Name "enumerate" p) [e] [] pos) (iEnum X.K te) := by
  intro pins s σ H R I h
  refine wpAny_Call_Name_kw (ld_blt I hg hm boot_enumerate ?_)
  refine PyProof.Rows.callWith_type1 (thn ((pa_cons hl pa_nil he) _ pins s σ H (fun vs H1 => match vs with | [x] => (∃ a, x = .ref a ∧ (∃ xs, SqL X.K H1 a xs) ∧ R (Ite X.K a) H1) | _ => False) I h) fun us s1 ⟨vs, H1, I1, r1, q1⟩ => ?_) he (by rfl)
  match vs, q1, r1 with
  | [x], q1, r1 =>
  obtain ⟨a, rfl, ⟨xs, hq⟩, q⟩ := q1
  obtain ⟨u, rfl, ru⟩ := vals1 r1
  obtain rfl : u = Value.ref a := ru
  obtain ⟨its, rv, pl, hz⟩ := I1.list hq
  refine call_enumerate_list pl.isList fun h' hen hit hsz hk => ?_
  refine wpAny_pyIter_enum hen ?_
  refine ⟨_, [_, _], _, _, H1, rfl, I1.kept (t' := s1.toks) hk, turn_enum a _ _ (Nat.ne_of_gt (Nat.lt_succ_self _)), ⟨⟨_, by simpa using hen⟩, hit⟩, fun b hb => ?_, q⟩
  have fr : ∀ b, s1.heap.objs.size ≤ b → FpOk X pins H1 b := fun b z => I1.fpOk z (I1.hok.fresh z)
  rcases List.mem_cons.mp hb with z | z
  · rw [z]; exact fr _ (Nat.le_succ _)
  · rw [List.mem_singleton.mp z]; exact fr _ (Nat.le_refl _)
end
/-- over a list that the body leaves as it is -/
theorem for_enum {K : PySem.W.Frag} {a : Addr} {xs : List V} {g : TG} {tb : TS} {D : Ends} {σ : St} {H : Hp} (Pv : Nat → St → Hp → Prop) (h0 : Pv 0 σ H) (hl : ∀ i σ H, i ≤ xs.length → Pv i σ H → SqL K H a xs)
    (hs : ∀ i x σ H p, xs[i]? = some x → Pv i σ H → H p = none → g (.ref p) σ (upd H p (.tup [.int i, x])) fun σ2 H2 => tb { D with nx := Pv (i + 1), ct := Pv (i + 1), bk := D.nx } σ2 H2) (hd : ∀ σ H, Pv xs.length σ H → D.nx σ H) :
    ∃ W : Nat → Nat → St → Hp → Prop, (∃ m, W 0 m σ H) ∧ ∀ i m σ H, W i m σ H →
      ((Ite K a).stop i H ∧ D.nx σ H) ∨ ((Ite K a).go i H ∧ ∃ N : St → Hp → Prop, (∀ σ' H', N σ' H' → ∃ m', m' < m ∧ W (i + 1) m' σ' H') ∧ ∀ x H', (Ite K a).yld i H x H' → g x σ H' fun σ2 H2 => tb { D with nx := N, ct := N, bk := D.nx } σ2 H2) := by
  refine ⟨fun i m σ H => m = xs.length - i ∧ i ≤ xs.length ∧ Pv i σ H, ⟨xs.length, by simp, Nat.zero_le _, h0⟩, ?_⟩
  rintro i m σ H ⟨rfl, hi, p⟩
  have q := hl i σ H hi p
  by_cases hlt : i < xs.length
  · refine .inr ⟨⟨xs, xs[i], q, by simp [hlt]⟩, Pv (i + 1), fun σ' H' p' => ⟨xs.length - (i + 1), by omega, rfl, hlt, p'⟩, fun x H' y => ?_⟩
    obtain ⟨z, pp, e1, e2, e3, e4⟩ := y
    subst e2 e4
    exact hs i z σ H pp (e1 xs q) p e3
  · have e : i = xs.length := by omega
    subst e
    exact .inl ⟨⟨xs, q, Nat.le_refl _⟩, hd σ H p⟩
/-- xs[j], j from 0 on, by values -/
def rGetN (K : PySem.W.Frag) : V → V → Hp → VK → Prop := fun o i H Q => ∃ (p : Addr) (xs : List V) (j : Nat) (k : Int) (v : V), o = .ref p ∧ i = .int k ∧ k = j ∧ SqL K H p xs ∧ xs[j]? = some v ∧ Q v H
theorem get_list {X : Cx} : PGet X (rGetN X.K) := by
  intro pins s σ H o i ov iv Q I r1 r2 h
  obtain ⟨p, xs, j, k, v, rfl, rfl, e, hq, hx, q⟩ := h
  cases r1
  obtain ⟨t, rfl⟩ := r2
  obtain ⟨its, r, pl, hz⟩ := I.list hq
  obtain ⟨w, ew, rw'⟩ := r.get hx
  have hl := r.length
  have hn := line63
  have hj : j < xs.length := (List.getElem?_eq_some_iff.mp hx).1
  exact wpAny_getItem_list pl.isList (by omega) (by omega) (by rw [e, Int.toNat_natCast]; simpa using ew) ⟨v, H, I, rw', q⟩
end L2

/-! ### xs[::-1]; a wished state behind a statement -/
namespace L2
open PySem PySem.Spec PyProof.Rows
section
variable {X : Cx} {e : Expr} {te : TE} {st : Expr} {ts : TO} {pos p2 : Pos}
end
section
variable {X : Cx} {st : Stmt} {t : TS}
end
end L2
/-! ### data: ints, lists, tuples, at any depth -/
namespace L2
open PySem PySem.Spec PyProof.Rows
inductive D where
  | i (n : Int) | l (xs : List D) | t (xs : List D)
mutual
/-- the value v is the datum -/
def Is (H : Hp) : D → V → Prop
  | .i n, v => v = .int n
  | .l xs, v => ∃ a vs, v = .ref a ∧ H a = some (.lst vs) ∧ Iss H xs vs
  | .t xs, v => ∃ a vs, v = .ref a ∧ H a = some (.tup vs) ∧ Iss H xs vs
def Iss (H : Hp) : List D → List V → Prop
  | [], vs => vs = []
  | x :: xs, vs => ∃ u us, vs = u :: us ∧ Is H x u ∧ Iss H xs us
end
theorem is_i {H : Hp} {n : Int} : Is H (.i n) (.int n) := by unfold Is; rfl
theorem is_l {H : Hp} {a : Addr} {xs : List D} {vs : List V} (h : H a = some (.lst vs)) (k : Iss H xs vs) : Is H (.l xs) (.ref a) := by unfold Is; exact ⟨a, vs, rfl, h, k⟩
theorem is_t {H : Hp} {a : Addr} {xs : List D} {vs : List V} (h : H a = some (.tup vs)) (k : Iss H xs vs) : Is H (.t xs) (.ref a) := by unfold Is; exact ⟨a, vs, rfl, h, k⟩
theorem of_i {H : Hp} {n : Int} {v : V} (h : Is H (.i n) v) : v = .int n := by unfold Is at h; exact h
theorem of_l {H : Hp} {xs : List D} {v : V} (h : Is H (.l xs) v) : ∃ a vs, v = .ref a ∧ H a = some (.lst vs) ∧ Iss H xs vs := by unfold Is at h; exact h
theorem of_t {H : Hp} {xs : List D} {v : V} (h : Is H (.t xs) v) : ∃ a vs, v = .ref a ∧ H a = some (.tup vs) ∧ Iss H xs vs := by unfold Is at h; exact h
theorem iss_nil {H : Hp} : Iss H [] [] := by unfold Iss; rfl
theorem iss_cons {H : Hp} {x : D} {xs : List D} {u : V} {us : List V} (h : Is H x u) (k : Iss H xs us) : Iss H (x :: xs) (u :: us) := by unfold Iss; exact ⟨u, us, rfl, h, k⟩
theorem of_cons {H : Hp} {x : D} {xs : List D} {vs : List V} (h : Iss H (x :: xs) vs) : ∃ u us, vs = u :: us ∧ Is H x u ∧ Iss H xs us := by unfold Iss at h; exact h
theorem of_nil {H : Hp} {vs : List V} (h : Iss H [] vs) : vs = [] := by unfold Iss at h; exact h
mutual
theorem Is.mono {H H' : Hp} (s : Same H H') : ∀ {d : D} {v : V}, Is H d v → Is H' d v
  | .i _, _, h => by rw [of_i h]; exact is_i
  | .l xs, _, h => by
    obtain ⟨a, vs, e, q, r⟩ := of_l h
    rw [e]
    exact is_l (s _ _ q) (Iss.mono s r)
  | .t xs, _, h => by
    obtain ⟨a, vs, e, q, r⟩ := of_t h
    rw [e]
    exact is_t (s _ _ q) (Iss.mono s r)
theorem Iss.mono {H H' : Hp} (s : Same H H') : ∀ {xs : List D} {vs : List V}, Iss H xs vs → Iss H' xs vs
  | [], _, h => by rw [of_nil h]; exact iss_nil
  | x :: xs, _, h => by
    obtain ⟨u, us, e, q, r⟩ := of_cons h
    rw [e]
    exact iss_cons (Is.mono s q) (Iss.mono s r)
end
theorem Iss.length {H : Hp} : ∀ {xs : List D} {vs : List V}, Iss H xs vs → vs.length = xs.length
  | [], _, h => by rw [of_nil h]; rfl
  | x :: xs, _, h => by
    obtain ⟨u, us, rfl, _, r⟩ := of_cons h
    rw [List.length_cons, List.length_cons, r.length]
theorem Iss.get {H : Hp} : ∀ {xs : List D} {vs : List V} {j : Nat} {x : D}, Iss H xs vs → xs[j]? = some x → ∃ v, vs[j]? = some v ∧ Is H x v
  | [], _, _, _, _, e => by simp at e
  | x :: xs, _, 0, _, h, e => by
    obtain ⟨u, us, rfl, q, _⟩ := of_cons h
    simp at e
    subst e
    exact ⟨u, rfl, q⟩
  | x :: xs, _, j + 1, _, h, e => by
    obtain ⟨u, us, rfl, _, r⟩ := of_cons h
    obtain ⟨v, e', k⟩ := r.get (j := j) (by simpa using e)
    exact ⟨v, by simpa using e', k⟩
theorem Iss.of_get {H : Hp} {xs : List D} {vs : List V} {j : Nat} {v : V} (h : Iss H xs vs) (e : vs[j]? = some v) : ∃ x, xs[j]? = some x ∧ Is H x v := by
  have hj : j < vs.length := (List.getElem?_eq_some_iff.mp e).1
  have hj' : j < xs.length := by rw [← h.length]; exact hj
  obtain ⟨u, e1, k⟩ := h.get (List.getElem?_eq_getElem hj')
  rw [e] at e1
  cases e1
  exact ⟨_, List.getElem?_eq_getElem hj', k⟩
theorem Iss.append {H : Hp} : ∀ {xs ys : List D} {vs ws : List V}, Iss H xs vs → Iss H ys ws → Iss H (xs ++ ys) (vs ++ ws)
  | [], _, _, _, h, k => by rw [of_nil h]; exact k
  | x :: xs, _, _, _, h, k => by
    obtain ⟨u, us, rfl, q, r⟩ := of_cons h
    exact iss_cons q (r.append k)
theorem Iss.take {H : Hp} : ∀ {xs : List D} {vs : List V} (n : Nat), Iss H xs vs → Iss H (xs.take n) (vs.take n)
  | [], _, n, h => by rw [of_nil h]; simp; exact iss_nil
  | x :: xs, _, 0, h => by simp; exact iss_nil
  | x :: xs, _, n + 1, h => by
    obtain ⟨u, us, rfl, q, r⟩ := of_cons h
    exact iss_cons q (r.take n)
theorem Iss.drop {H : Hp} : ∀ {xs : List D} {vs : List V} (n : Nat), Iss H xs vs → Iss H (xs.drop n) (vs.drop n)
  | [], _, n, h => by rw [of_nil h]; simp; exact iss_nil
  | x :: xs, _, 0, h => h
  | x :: xs, _, n + 1, h => by
    obtain ⟨u, us, rfl, q, r⟩ := of_cons h
    exact r.drop n
theorem Iss.rep {H : Hp} {x : D} {v : V} (h : Is H x v) : ∀ n : Nat, Iss H (List.replicate n x) (List.replicate n v)
  | 0 => iss_nil
  | n + 1 => by rw [List.replicate_succ, List.replicate_succ]; exact iss_cons h (Iss.rep h n)
mutual
/-- may be compared -/
def Kin : D → D → Prop
  | .i _, .i _ => True
  | .l xs, .l ys => Kins xs ys
  | .t xs, .t ys => Kins xs ys
  | _, _ => False
def Kins : List D → List D → Prop
  | x :: xs, y :: ys => Kin x y ∧ Kins xs ys
  | _, _ => True
end
mutual
def eqD : D → D → Bool
  | .i a, .i b => decide (a = b)
  | .l xs, .l ys => eqDs xs ys
  | .t xs, .t ys => eqDs xs ys
  | _, _ => false
def eqDs : List D → List D → Bool
  | [], [] => true
  | x :: xs, y :: ys => eqD x y && eqDs xs ys
  | _, _ => false
end
mutual
def dep : D → Nat
  | .i _ => 0
  | .l xs => deps xs + 1
  | .t xs => deps xs + 1
def deps : List D → Nat
  | [] => 0
  | x :: xs => max (dep x) (deps xs)
end
mutual
theorem eqD_iff : ∀ {a b : D}, eqD a b = true ↔ a = b
  | .i a, .i b => by simp [eqD]
  | .i _, .l _ => by simp [eqD]
  | .i _, .t _ => by simp [eqD]
  | .l _, .i _ => by simp [eqD]
  | .l xs, .l ys => by simp [eqD, eqDs_iff (xs := xs) (ys := ys)]
  | .l _, .t _ => by simp [eqD]
  | .t _, .i _ => by simp [eqD]
  | .t _, .l _ => by simp [eqD]
  | .t xs, .t ys => by simp [eqD, eqDs_iff (xs := xs) (ys := ys)]
theorem eqDs_iff : ∀ {xs ys : List D}, eqDs xs ys = true ↔ xs = ys
  | [], [] => by simp [eqDs]
  | [], _ :: _ => by simp [eqDs]
  | _ :: _, [] => by simp [eqDs]
  | x :: xs, y :: ys => by simp [eqDs, eqD_iff (a := x) (b := y), eqDs_iff (xs := xs) (ys := ys)]
end
theorem eqDs_all : ∀ {xs ys : List D}, xs.length = ys.length → eqDs xs ys = (List.range xs.length).all fun j => eqD (xs.getD j (.i 0)) (ys.getD j (.i 0))
  | [], [], _ => by simp [eqDs]
  | x :: xs, y :: ys, h => by
    have ih := eqDs_all (xs := xs) (ys := ys) (by simpa using h)
    rw [eqDs, ih, List.length_cons, List.range_succ_eq_map]
    simp [List.all_map, Function.comp_def]
theorem eqDs_len {xs ys : List D} (h : xs.length ≠ ys.length) : eqDs xs ys = false := by
  cases e : eqDs xs ys with
  | false => rfl
  | true => exact absurd (congrArg List.length (eqDs_iff.mp e)) h
mutual
theorem Is.eqr {K : PySem.W.Frag} {H : Hp} : ∀ {d e : D} {v w : V} {n : Nat}, dep d ≤ n → Kin d e → Is H d v → Is H e w → EqR K H n v w (eqD d e)
  | .i a, .i b, _, _, n, _, _, h, k => by
    rw [of_i h, of_i k, eqD]
    exact EqR.int n a b
  | .l xs, .l ys, _, _, 0, hn, _, _, _ => absurd hn (by unfold dep; omega)
  | .l xs, .l ys, _, _, n + 1, hn, hk, h, k => by
    obtain ⟨a, vs, rfl, ha, ra⟩ := of_l h
    obtain ⟨b, ws, rfl, hb, rb⟩ := of_l k
    have hn' : deps xs ≤ n := by unfold dep at hn; omega
    have hk' : Kins xs ys := by unfold Kin at hk; exact hk
    have l1 := ra.length
    have l2 := rb.length
    rw [eqD]
    by_cases hl : xs.length = ys.length
    · rw [eqDs_all hl, ← l1]
      exact EqR.lists _ (SqL.of ha) (SqL.of hb) (by omega) fun j x y hx hy => Iss.eqr hn' hk' ra rb hx hy
    · rw [eqDs_len hl]
      exact EqR.lens (SqL.of ha) (SqL.of hb) (by omega)
  | .t xs, .t ys, _, _, 0, hn, _, _, _ => absurd hn (by unfold dep; omega)
  | .t xs, .t ys, _, _, n + 1, hn, hk, h, k => by
    obtain ⟨a, vs, rfl, ha, ra⟩ := of_t h
    obtain ⟨b, ws, rfl, hb, rb⟩ := of_t k
    have hn' : deps xs ≤ n := by unfold dep at hn; omega
    have hk' : Kins xs ys := by unfold Kin at hk; exact hk
    have l1 := ra.length
    have l2 := rb.length
    rw [eqD]
    have q := EqR.tuples (d := n) (fun j => eqD (xs.getD j (.i 0)) (ys.getD j (.i 0))) (SqT.of (K := K) ha) (SqT.of (K := K) hb) fun j x y hx hy => Iss.eqr hn' hk' ra rb hx hy
    by_cases hl : xs.length = ys.length
    · rw [eqDs_all hl]
      rw [l1, l2, ← hl, Nat.min_self] at q
      simpa using q
    · rw [eqDs_len hl]
      have z : (vs.length == ws.length) = false := by rw [l1, l2]; simpa using hl
      rw [z, Bool.and_false] at q
      exact q
  | .i _, .l _, _, _, _, _, hk, _, _ => by unfold Kin at hk; exact hk.elim
  | .i _, .t _, _, _, _, _, hk, _, _ => by unfold Kin at hk; exact hk.elim
  | .l _, .i _, _, _, _, _, hk, _, _ => by unfold Kin at hk; exact hk.elim
  | .l _, .t _, _, _, _, _, hk, _, _ => by unfold Kin at hk; exact hk.elim
  | .t _, .i _, _, _, _, _, hk, _, _ => by unfold Kin at hk; exact hk.elim
  | .t _, .l _, _, _, _, _, hk, _, _ => by unfold Kin at hk; exact hk.elim
theorem Iss.eqr {K : PySem.W.Frag} {H : Hp} : ∀ {xs ys : List D} {vs ws : List V} {n : Nat}, deps xs ≤ n → Kins xs ys → Iss H xs vs → Iss H ys ws → ∀ {j : Nat} {x y : V}, vs[j]? = some x → ws[j]? = some y →
    EqR K H n x y (eqD (xs.getD j (.i 0)) (ys.getD j (.i 0)))
  | [], _, _, _, _, _, _, h, _, _, _, _, e, _ => by rw [of_nil h] at e; simp at e
  | _ :: _, [], _, _, _, _, _, _, k, _, _, _, _, e => by rw [of_nil k] at e; simp at e
  | x :: xs, y :: ys, _, _, n, hn, hk, h, k, 0, u, w, e1, e2 => by
    obtain ⟨u', us, rfl, q, _⟩ := of_cons h
    obtain ⟨w', ws, rfl, q', _⟩ := of_cons k
    simp at e1 e2
    subst e1 e2
    have hk' : Kin x y ∧ Kins xs ys := by unfold Kins at hk; exact hk
    have hd : dep x ≤ n := by unfold deps at hn; omega
    exact Is.eqr (d := x) (e := y) hd hk'.1 q q'
  | x :: xs, y :: ys, _, _, n, hn, hk, h, k, j + 1, u, w, e1, e2 => by
    obtain ⟨u', us, rfl, _, r⟩ := of_cons h
    obtain ⟨w', ws, rfl, _, r'⟩ := of_cons k
    have hk' : Kin x y ∧ Kins xs ys := by unfold Kins at hk; exact hk
    have hd : deps xs ≤ n := by unfold deps at hn; omega
    have := Iss.eqr (K := K) hd hk'.2 r r' (j := j) (by simpa using e1) (by simpa using e2)
    simpa using this
end
/-! ### points -/
abbrev Pt := Int × Int
def pt (p : Pt) : D := .t [.i p.1, .i p.2]
def pts (ps : List Pt) : D := .l (ps.map pt)
theorem of_pt {H : Hp} {p : Pt} {v : V} (h : Is H (pt p) v) : ∃ a, v = .ref a ∧ H a = some (.tup [.int p.1, .int p.2]) := by
  obtain ⟨a, vs, e, q, r⟩ := of_t h
  obtain ⟨u, us, rfl, h1, r⟩ := of_cons r
  obtain ⟨u', us', rfl, h2, r⟩ := of_cons r
  rw [of_nil r, of_i h1, of_i h2] at q
  exact ⟨a, e, q⟩
theorem is_pt {H : Hp} {p : Pt} {a : Addr} (h : H a = some (.tup [.int p.1, .int p.2])) : Is H (pt p) (.ref a) := is_t h (iss_cons is_i (iss_cons is_i iss_nil))
theorem of_pts {H : Hp} {ps : List Pt} {v : V} (h : Is H (pts ps) v) : ∃ a vs, v = .ref a ∧ H a = some (.lst vs) ∧ Iss H (ps.map pt) vs := of_l h
/-! ### a list that grows -/
/-- without what stands at a -/
def hid (H : Hp) (a : Addr) : Hp := fun b => if b = a then none else H b
theorem hid_at {H : Hp} {a b : Addr} (h : b ≠ a) : hid H a b = H b := by unfold hid; rw [if_neg h]
theorem hid_self {H : Hp} {a : Addr} : hid H a a = none := by unfold hid; rw [if_pos rfl]
theorem hid_same {H : Hp} {a : Addr} : Same (hid H a) H := fun b o e => by
  unfold hid at e
  split at e
  · cases e
  · exact e
theorem hid_mono {H H' : Hp} {a : Addr} (s : Same H H') : Same (hid H a) (hid H' a) := fun b o e => by
  unfold hid at e ⊢
  split at e
  · cases e
  · rename_i h
    rw [if_neg h]
    exact s b o e
theorem hid_upd {H : Hp} {a : Addr} {o : HO} : hid (upd H a o) a = hid H a := by
  funext b
  unfold hid
  split
  · rfl
  · rename_i h
    exact upd_ne h
/-- none of the list's own things is the list -/
def Grow (H : Hp) (a : Addr) (xs : List D) : Prop := ∃ vs, H a = some (.lst vs) ∧ Iss (hid H a) xs vs
theorem Grow.start {H : Hp} {a : Addr} : Grow (upd H a (.lst [])) a [] := ⟨[], upd_same, iss_nil⟩
theorem Grow.is {H : Hp} {a : Addr} {xs : List D} (g : Grow H a xs) : Is H (.l xs) (.ref a) := let ⟨_, e, h⟩ := g; is_l e (h.mono hid_same)
theorem grow_add {H : Hp} {a : Addr} {xs : List D} {x : D} {vs : List V} {v : V} (h : Iss (hid H a) xs vs) (k : Is (hid H a) x v) : Grow (upd H a (.lst (vs ++ [v]))) a (xs ++ [x]) :=
  ⟨_, upd_same, by rw [hid_upd]; exact h.append (iss_cons k iss_nil)⟩
end L2
/-! ### what is newly laid, told by what is true of it -/
namespace L2
open PySem PySem.Spec PyProof.Rows
section
variable {X : Cx} {es : List Expr} {t : TA} {pos : Pos}
def New (H : Hp) (o : HO) (Q : VK) : Prop := ∀ p H2, H p = none → Same H H2 → H2 p = some o → Q (.ref p) H2
theorem New.at {H : Hp} {o : HO} {Q : VK} (q : New H o Q) {p : Addr} (np : H p = none) : Q (.ref p) (upd H p o) := q p _ np (Same.new np) upd_same
def tTupN (t : TA) : TE := fun σ H Q => t σ H fun xs H1 => xs.length ≤ sizeLine ∧ New H1 (.tup xs) Q
def tLstN (t : TA) : TE := fun σ H Q => t σ H fun xs H1 => xs.length ≤ sizeLine ∧ New H1 (.lst xs) Q
theorem pe_tupN {x1} (h : PA X es t) : PE X (.Tuple es x1 pos) (tTupN t) := by
  intro pins s σ H Q I hq
  refine wpAny_Tuple_spliced (thn (h pos pins s σ H _ I hq) fun us s1 ⟨xs, H1, I1, r, z, q⟩ => ⟨by rw [← r.length]; exact z, ?_⟩)
  refine ⟨.ref s1.heap.objs.size, upd H1 s1.heap.objs.size (.tup xs), I1.laid (t' := s1.toks) (fun b u e => Heap.get?_push_of_some _ e) (Nat.le_refl _) ?_, rfl, q.at (I1.hok.fresh (Nat.le_refl _))⟩
  exact ⟨z, us, r, ⟨_, Heap.get?_push_size _ rfl, rfl, _, rfl⟩⟩
theorem pe_lstN (h : PA X es t) : PE X (.List es pos) (tLstN t) := by
  intro pins s σ H Q I hq
  refine wpAny_List_spliced (thn (h pos pins s σ H _ I hq) fun us s1 ⟨xs, H1, I1, r, z, q⟩ => ⟨by rw [← r.length]; exact z, ?_⟩)
  refine ⟨.ref s1.heap.objs.size, upd H1 s1.heap.objs.size (.lst xs), I1.laid (t' := s1.toks) (fun b u e => Heap.get?_push_of_some _ e) (Nat.le_refl _) ?_, rfl, q.at (I1.hok.fresh (Nat.le_refl _))⟩
  exact ⟨z, us, 0, r, Heap.get?_push_size _ rfl⟩
theorem OpR.imp {f : Value → Value → Sem Value} {r r' : R2} (h : OpR X f r) (k : ∀ x y H Q, r' x y H Q → r x y H Q) : OpR X f r' := fun pins s σ H x y v u Q I rx ry q => h pins s σ H x y v u Q I rx ry (k _ _ _ _ q)
theorem CallR.imp {f : Value} {r r' : List V → Hp → VK → Prop} (h : CallR X f r) (k : ∀ xs H Q, r' xs H Q → r xs H Q) : CallR X f r' := fun pins s σ H xs us Q I rs q => h pins s σ H xs us Q I rs (k _ _ _ q)
/-- a + b, two lists of data -/
theorem op_catN : OpR X (binaryOp .Add) (fun x y H Q => ∃ xs zs, Is H (.l xs) x ∧ Is H (.l zs) y ∧ xs.length + zs.length ≤ sizeLine ∧ ∀ p H2, H p = none → Same H H2 → Is H2 (.l (xs ++ zs)) (.ref p) → Q (.ref p) H2) :=
  op_cat.imp fun x y H Q ⟨xs, zs, hx, hz, hl, q⟩ => by
    obtain ⟨a, vs, rfl, ha, ra⟩ := of_l hx
    obtain ⟨b, ws, rfl, hb, rb⟩ := of_l hz
    exact ⟨a, b, vs, ws, rfl, rfl, ha, hb, by rw [ra.length, rb.length]; exact hl, fun p np => q p _ np (Same.new np) (is_l upd_same ((ra.append rb).mono (Same.new np)))⟩
theorem rep_one {α : Type} {x : α} : ∀ n : Nat, (List.replicate n [x]).flatten = List.replicate n x
  | 0 => rfl
  | n + 1 => by rw [List.replicate_succ, List.flatten_cons, rep_one n, List.replicate_succ]; rfl
/-- [x] * n -/
theorem op_repN : OpR X (binaryOp .Mult) (fun x y H Q => ∃ d n, Is H (.l [d]) x ∧ y = .int n ∧ -(2 ^ 63) ≤ n ∧ n < 2 ^ 63 ∧ n.toNat ≤ sizeLine ∧ ∀ p H2, H p = none → Same H H2 → Is H2 (.l (List.replicate n.toNat d)) (.ref p) → Q (.ref p) H2) :=
  op_rep.imp fun x y H Q ⟨d, n, hx, ey, h1, h2, hl, q⟩ => by
    obtain ⟨a, vs, rfl, ha, ra⟩ := of_l hx
    obtain ⟨u, us, rfl, hu, ru⟩ := of_cons ra
    rw [of_nil ru] at ha
    refine ⟨a, n, _, rfl, ey, ha, h1, h2, by rw [List.length_singleton, Nat.one_mul]; exact hl, fun p np => q p _ np (Same.new np) ?_⟩
    rw [rep_one]
    exact is_l upd_same ((Iss.rep hu _).mono (Same.new np))
/-- tuple(xs), xs a list of data -/
theorem call_tuple_ofN : CallR X (.type "tuple") (fun vs H Q => ∃ v xs, vs = [v] ∧ Is H (.l xs) v ∧ ∀ p H2, H p = none → Same H H2 → Is H2 (.t xs) (.ref p) → Q (.ref p) H2) :=
  call_tuple_of.imp fun vs H Q ⟨v, xs, ev, hx, q⟩ => by
    subst ev
    obtain ⟨a, ws, rfl, ha, ra⟩ := of_l hx
    exact ⟨a, ws, rfl, .inl ⟨SqL.of ha, fun p np => q p _ np (Same.new np) (is_t upd_same (ra.mono (Same.new np)))⟩⟩
/-- xs[i], a datum's item -/
theorem ix_D {α : Type} {xs : List α} {i : Int} {j : Nat} {x : α} (e : i = j) (h : xs[j]? = some x) : atI xs i = some x := by rw [e]; exact atI_nat h
theorem Iss.atI {H : Hp} {xs : List D} {vs : List V} {i : Int} {x : D} (h : Iss H xs vs) (e : L2.atI xs i = some x) : ∃ u, L2.atI vs i = some u ∧ Is H x u := by
  unfold L2.atI at e ⊢
  rw [h.length]
  cases q : ixN xs.length i with
  | none => rw [q] at e; cases e
  | some j =>
    rw [q] at e
    obtain ⟨u, e1, k⟩ := h.get (j := j) e
    exact ⟨u, e1, k⟩
theorem ix_tupN : IxR X (fun x y H Q => ∃ xs i d, Is H (.t xs) x ∧ y = .int i ∧ atI xs i = some d ∧ ∀ u, Is H d u → Q u H) := by
  intro value slice pins s σ H x y v u Q I rx ry h hs
  obtain ⟨xs, i, d, hx, ey, e, q⟩ := h
  obtain ⟨a, vs, rfl, ha, ra⟩ := of_t hx
  obtain ⟨z, ez, hz⟩ := ra.atI e
  exact ix_tup value slice pins s σ H (.ref a) y v u Q I rx ry ⟨a, vs, i, z, rfl, ey, SqT.of ha, ez, q z hz⟩ hs
end
end L2
/-! ### exceptions of own classes: raised in a def, passed on, caught -/
namespace L2
open PySem PySem.Spec PyProof.Rows
section
variable {P : Program} {w : World} {H : Hp} {h : Heap} {a : Addr} {o : HO}
theorem ObjOk.obj (x : ObjOk P w H h a o) : ∃ ob, h.get? a = some ob := by
  cases o with
  | lst xs => obtain ⟨_, _, _, _, e⟩ := x; exact ⟨_, e⟩
  | tup xs => obtain ⟨_, _, _, _, e, _⟩ := x; exact ⟨_, e⟩
  | dK kvs => obtain ⟨_, _, _, _, _, _, _, e, _⟩ := x; exact ⟨_, e⟩
  | dT kvs => obtain ⟨_, _, _, _, _, _, _, e, _⟩ := x; exact ⟨_, e⟩
  | set S n => obtain ⟨_, _, _, _, e, _⟩ := x; exact ⟨_, e⟩
  | ins C dx fs => obtain ⟨_, _, _, e, _⟩ := x; exact ⟨_, e⟩
  | own y => exact x
  | xd fs => obtain ⟨_, ⟨_, _, _, e, _⟩, _⟩ := x; exact ⟨_, e⟩
  | rng lo hi => obtain ⟨_, _, _, e⟩ := x; exact ⟨_, e⟩
  | frz ob u => exact ⟨_, x.1⟩
  | tbl ps => exact ⟨_, x⟩
  | met f y => exact ⟨_, x⟩
  | ext φ => exact x.2.1
end
/-- how an exception of an own class lies behind a call: B is the heap at the raise, without the frames -/
def CX1 (P : Program) (w : World) : CXT := fun outer H s E e s' =>
  ∃ (a C : Addr) (H' : Hp) (B : Heap) (a0 : Value), e = .ref a ∧ E (.ref C) none H' ∧ s'.os = s.os ∧ AllBare s'.gens ∧ Un (frs outer) [] H H' s.heap s'.heap ∧ HOk P w H' B ∧ H' a = none ∧
    Heap.FlyingW B outer a (.ref C) a0 s'.heap ∧ (∀ b o, s.heap.get? b = some o → H b = none → b ∉ frs outer → B.get? b = some o) ∧ (∀ b o, s.heap.get? b = some o → b ∉ frs outer → ∃ o', B.get? b = some o')
/-- an exception of class C that is made here reaches what this body wants of exceptions -/
def Raises (X : Cx) (E : XK) : Prop := ∀ (pins : List (Addr × Obj)) (σ : St) (H : Hp) (s : Shared) (h' : Heap) (e C : Addr) (args : List Value), Inv X pins σ H s → Heap.MadeExcOf s.heap h' e (.ref C) args → E (.ref C) none H → X.xe (.ref e) { s with heap := h' }
theorem passE0 {X : Cx} {P : Program} {w : World} : Passes (CX1 P w) X E0 := fun _ _ _ _ _ _ _ ⟨_, _, _, _, _, _, z, _⟩ => z.elim
section
variable {X : Cx} {pins : List (Addr × Obj)} {σ : St} {H H' : Hp} {s s' : Shared} {B h' : Heap} {l : List Env}
theorem un_fly (u : Un (frs l) [] H H' s.heap s'.heap) (fl : s'.heap.FunFrames B l) (kB : ∀ b o, s.heap.get? b = some o → H b = none → b ∉ frs l → B.get? b = some o) (tB : ∀ b o, s.heap.get? b = some o → b ∉ frs l → ∃ o', B.get? b = some o')
    (st : B.StaysIn h') (up : s'.heap.UpToSlots h') : Un (frs l) [] H H' s.heap h' where
  keep := fun b o e n hb _ => st b o (kB b o e n hb)
  slot := fun b o e n hb hx => by
    obtain ⟨sl, e1⟩ := u.slot b o e n hb hx
    obtain ⟨_, o', e2, d⟩ := fl.mem hb
    rw [e1] at e2
    cases e2
    obtain ⟨sl', e3⟩ := up b _ e1 d
    exact ⟨sl', e3⟩
  free := u.free
  there := fun b o e hx => by
    by_cases hb : b ∈ frs l
    · obtain ⟨_, o', e2, d⟩ := fl.mem hb
      obtain ⟨sl', e3⟩ := up b _ e2 d
      exact ⟨_, e3⟩
    · obtain ⟨o', e2⟩ := tB b o e hb
      exact ⟨o', st b o' e2⟩
  tups := u.tups
  frzs := u.frzs
  tbls := u.tbls
theorem Inv.nstk (I : Inv X pins σ H s) {b : Addr} {o : Obj} (e : X.s₀.heap.get? b = some o) (hb : b ∉ X.fs) : b ∉ frs X.stack := fun z => by
  rcases List.mem_cons.mp (I.stkSub b z) with q | q
  · exact absurd q (Nat.ne_of_lt (Nat.lt_of_lt_of_le (Heap.lt_size e) I.ok.above))
  · exact hb q
theorem frs_in {env : Env} {b : Addr} (he : env ∈ l) (hf : env.frame = some b) : b ∈ frs l := List.mem_filterMap.mpr ⟨env, he, hf⟩
theorem Inv.hidden (I : Inv X pins σ H s) : HOk X.prog X.w H (PySem.W.hideAll s.heap (frs X.stack)) := fun a o e => by
  refine (I.hok a o e).stay (fun b u hb q => PySem.W.hideAll_get _ q fun z => ?_) (fun _ q => q) fun _ _ q => q
  have n := I.stkFree b z
  rcases hb with rfl | hb
  · rw [n] at e; cases e
  · rw [n] at hb; cases hb
/-- the frame at hand is on top of the stack, nothing is walked from outside -/
structure Fnc (X : Cx) : Prop where
  ex : X.ex = []
  stk : X.stack = X.env :: X.outer
  fr : X.env.frame = some X.env.locals
theorem CX1.mk {E : XK} {e C : Addr} {a0 : Value} (F : Fnc X) (I : Inv X pins σ H s) (os : s'.os = s.os) (bare : AllBare s'.gens) (u : Un (frs X.stack) [] H H' s.heap s'.heap) (hB : HOk X.prog X.w H' B) (hE : E (.ref C) none H') (hn : H' e = none)
    (fl : Heap.FlyingW B X.outer e (.ref C) a0 s'.heap) (kB : ∀ b o, s.heap.get? b = some o → H b = none → b ∉ frs X.stack → B.get? b = some o) (tB : ∀ b o, s.heap.get? b = some o → b ∉ frs X.stack → ∃ o', B.get? b = some o') :
    CX1 X.prog X.w X.outer X.H₀ X.s₀ E (.ref e) s' := by
  have J : Inv X pins σ H' s' := I.call' (ch := []) os u (hB.kept fl.1) bare fun _ z => absurd z (by simp)
  have ub : Un X.fs X.ex X.H₀ H' X.s₀.heap s'.heap := J.base
  have nx : ∀ b : Addr, b ∉ X.ex := fun b => by rw [F.ex]; simp
  rw [F.ex] at ub
  refine ⟨e, C, H', B, a0, rfl, hE, J.os, J.bare, ub, hB, hn, fl, fun b o q n hb => ?_, fun b o q hb => ?_⟩
  · exact kB b o (I.base.keep b o q n hb (nx b)) (I.base.free b o q n (nx b)) (I.nstk q hb)
  · obtain ⟨o', q'⟩ := I.base.there b o q (nx b)
    exact tB b o' q' (I.nstk q hb)
theorem raises_of {CX : CXT} {E : XK} (F : Fnc X) (hcx : CX = CX1 X.prog X.w) (hxe : X.xe = fun e s' => wpAny (model X.prog X.w) X.A (leaving X.env e) (fun _ s'' => CX X.outer X.H₀ X.s₀ E e s'') (fun e' s'' => CX X.outer X.H₀ X.s₀ E e' s'') s') : Raises X E := by
  intro pins σ H s h' e C args I hx hE
  subst hcx
  rw [hxe]
  have fb := I.stack
  have hl : s.heap.FunFrames (PySem.W.hideAll s.heap (frs X.stack)) (X.env :: X.outer) := by
    rw [F.stk] at fb ⊢
    exact PySem.W.funFrames_hide fb fun env he b hb => frs_in he hb
  refine wpAny_leaves_madeW (base := PySem.W.hideAll s.heap (frs X.stack)) (by rw [I.ok.frames, F.stk]) F.fr (fun b o q => PySem.W.of_hideAll _ q) hl hx fun h'' t fl _ _ up => ?_
  have kB : ∀ b o, s.heap.get? b = some o → b ∉ frs X.stack → (PySem.W.hideAll s.heap (frs X.stack)).get? b = some o := fun b o q n => PySem.W.hideAll_get _ q n
  have hn : H e = none := by
    cases q : H e with
    | none => rfl
    | some o =>
      obtain ⟨ob, z⟩ := (I.hok e o q).obj
      rw [hx.new] at z
      cases z
  have u0 : Un (frs X.stack) [] H H s.heap h' := Un.kept hx.keeps
  have fl' : h'.FunFrames (PySem.W.hideAll s.heap (frs X.stack)) X.stack := by
    rw [F.stk]
    rw [F.stk] at hl
    exact hl.of_keeps fun b o q _ => ⟨o, hx.keeps b o q, rfl⟩
  have u : Un (frs X.stack) [] H H s.heap h'' := un_fly (s' := { s with heap := h' }) u0 fl' (fun b o q _ n => kB b o q n) (fun b o q n => ⟨o, kB b o q n⟩) fl.1 up
  exact CX1.mk (s' := { s with heap := h'' }) F I rfl I.bare u I.hidden hE hn fl (fun b o q _ n => kB b o q n) (fun b o q n => ⟨o, kB b o q n⟩)
theorem passes_of {CX : CXT} {E : XK} (F : Fnc X) (hcx : CX = CX1 X.prog X.w) (hxe : X.xe = fun e s' => wpAny (model X.prog X.w) X.A (leaving X.env e) (fun _ s'' => CX X.outer X.H₀ X.s₀ E e s'') (fun e' s'' => CX X.outer X.H₀ X.s₀ E e' s'') s') : Passes (CX1 X.prog X.w) X E := by
  intro pins σ H s e s' I hc
  subst hcx
  rw [hxe]
  obtain ⟨a, C, H', B, a0, rfl, hE, os, bare, u, hB, hn, fl, kB, tB⟩ := hc
  refine wpAny_leaves_onW (by rw [I.ok.frames, F.stk]) F.fr (by rw [← F.stk]; exact fl) fun h'' fl'' up => ?_
  exact CX1.mk (s' := { s' with heap := h'' }) F I os bare (un_fly u fl.2.2.1 kB tB fl''.1 up) hB hE hn fl'' kB tB
end
/-- THE RULE for a def that may raise -/
theorem Fun.okx {P : Program} {w : World} {K : PySem.W.Frag} {mg : Str → Option Value} {base : Heap} {x qual : Str} {st : Stmt} {f : Addr} {fd : FuncData} {N ps : List Str} {k : Nat} {sp : Sp} (F : Fun K x qual st f fd) (S : FnScope N ps (defScope st)) (len : ∀ vs H Q E, sp vs H Q E → vs.length = ps.length)
    (hbody : ∀ (cdv : Value) (A : Around) (outer : List Env) (s : Shared) (H : Hp) (vs : List V) (Q : VK) (E : XK), Room k (A.deeper (envOfC qual (defScope st) s.heap.objs.size f cdv)) → sp vs H Q E →
      Raises (cxOf (CX1 P w) P w K mg base N qual (defScope st) f cdv A outer s H E) E → Passes (CX1 P w) (cxOf (CX1 P w) P w K mg base N qual (defScope st) f cdv A outer s H E) E →
      ∃ t, PSs (cxOf (CX1 P w) P w K mg base N qual (defScope st) f cdv A outer s H E) (defBody st) t ∧ t { nx := fun _ H' => Q .non H', rt := Q } (start N vs) H) : FnOk P w K mg base (CX1 P w) (k + 1) f fd ps sp := by
  obtain ⟨oc, od, kV, doc, pm, an, cdv, ct, osl, rfl, lk, hcd⟩ := F.ex
  refine fn_of lk hcd S len fun A outer s H vs Q E hr hsp => ?_
  have Fn : Fnc (cxOf (CX1 P w) P w K mg base N qual (defScope st) f cdv A outer s H E) := ⟨rfl, rfl, rfl⟩
  exact hbody cdv A outer s H vs Q E hr hsp (raises_of Fn rfl rfl) (passes_of Fn rfl rfl)
/-- .. with a try in it: the frame is on top -/
theorem Fun.oky {P : Program} {w : World} {K : PySem.W.Frag} {mg : Str → Option Value} {base : Heap} {x qual : Str} {st : Stmt} {f : Addr} {fd : FuncData} {N ps : List Str} {k : Nat} {sp : Sp} (F : Fun K x qual st f fd) (S : FnScope N ps (defScope st)) (len : ∀ vs H Q E, sp vs H Q E → vs.length = ps.length)
    (hbody : ∀ (cdv : Value) (A : Around) (outer : List Env) (s : Shared) (H : Hp) (vs : List V) (Q : VK) (E : XK), Room k (A.deeper (envOfC qual (defScope st) s.heap.objs.size f cdv)) → sp vs H Q E →
      Fnc (cxOf CX0 P w K mg base N qual (defScope st) f cdv A outer s H E).nox →
      ∃ t, PSs (cxOf CX0 P w K mg base N qual (defScope st) f cdv A outer s H E).nox (defBody st) t ∧ t { nx := fun _ H' => Q .non H', rt := Q } (start N vs) H) : FnOk P w K mg base CX0 (k + 1) f fd ps sp :=
  F.ok S len fun cdv A outer s H vs Q E hr hsp => hbody cdv A outer s H vs Q E hr hsp ⟨rfl, rfl, rfl⟩

/-! ### raise C(e, ..) -/
section
variable {X : Cx} {pos np cpos : Pos} {x : Str} {C : Addr} {E : XK} {e : Expr} {es : List Expr} {t : TA}
abbrev bmV : List Value := [.type "ValueError", .type "Exception", .type "BaseException", .type "object"]
theorem exc_obj {K : PySem.W.Frag} {h : Heap} {bmB : List Value} {newId : String} (Y : K.In h) (q : PySem.W.excIn K C bmB newId = true) :
    ∃ bm N nm qn bs hdct sn sub ab col dd k0 k1 k2 k3 k5 mN, h.get? C = some (excClassObj nm qn C N bs bm hdct sn sub ab col dd k0 k1 k2 k3 k5 newId) ∧ h.Ns N mN ∧ mN "__init__" = none ∧ OwnTail h bmB bm := by
  unfold PySem.W.excIn at q
  split at q
  case h_2 => cases q
  rename_i dd cd sl ho
  split at q
  case h_2 => cases q
  rename_i C' bm k0 k1 k2 k3 n k5 hm hs
  rw [Bool.and_eq_true, Bool.and_eq_true, Bool.and_eq_true, Bool.and_eq_true, Bool.and_eq_true, beq_iff_eq, beq_iff_eq, beq_iff_eq, Bool.not_eq_true'] at q
  obtain ⟨⟨⟨⟨⟨e1, e2⟩, e3⟩, e4⟩, e5⟩, e6⟩ := q
  subst e1 e2
  rcases cd with ⟨nm, bs, mro, ns, qn, hd, sn, sub, ab, col, del⟩
  dsimp only at hm e3 e5 e6
  subst hm e3
  have hsl : sl = #[k0, k1, k2, k3, some (.builtin n), k5] := by
    rcases sl with ⟨l⟩
    have hs' : l = _ := hs
    rw [hs']
  subst hsl
  exact ⟨bm, ns, nm, qn, bs, hd, sn, sub, ab, col, dd, k0, k1, k2, k3, k5, _, Y _ _ ho, .of_isNs (PySem.W.isNs_of_in Y e5), PySem.W.nsMap_none_of_in Y e5 e6, PySem.W.tail_of_in Y e4⟩
def tRaise (C : Addr) (E : XK) (t : TA) : TS := fun _ σ H => t σ H fun vs H1 => vs.length ≤ sizeLine ∧ E (.ref C) none H1
theorem ps_raise (hR : Raises X E) (hg : Gl X x) (hm : X.mg x = some (.ref C)) (hC : PySem.W.excIn X.K C bmV "ValueError.__new__" = true) (hc : X.calm = true) (ha : PA X (e :: es) t) (hdb : (x == ("__debug__" : Str)) = false := by decide)
    (he : starEach (e :: es) X.env = (false, eval e X.env) :: starEach es X.env := by rfl) (hpl : (backTo cpos (starEach es X.env)).any (·.1) = false := by rfl) :
    PS X (.Raise (some (.Call (.Name x np) (e :: es) [] cpos)) none pos) (tRaise C E t) := by
  intro pins s σ H D I h
  have hcl := I.ok.mod.kin
  obtain ⟨bm', N', nm', qn', bs', hdct', sn', sub', ab', col', dd', k0', k1', k2', k3', k5', mN', hCb, hNb, hnib, TLb⟩ := exc_obj hcl hC
  refine wpAny_Raise_call_subT (q := qn') (N := N') (bs := bs') (bm := bm') (hdct := hdct') (sn := sn') (sub := sub') (ab := ab') (col := col') (dd := dd') (k0 := k0') (k1 := k1') (k2 := k2') (k3 := k3') (k5 := k5') (nm := nm') (mN := mN') PySem.F.excBase_ValueError
    (TLb.hasType (by decide +kernel)) (I.ok.hd hc) (by rw [he]; show (false || (backTo cpos (starEach es X.env)).any (·.1)) = false; rw [hpl]; rfl) hnib (ld_glob I hg hm ⟨rfl, ?_⟩ hdb)
  have h2 := ha cpos pins s σ H _ I h
  rw [he] at h2 ⊢
  refine Calls.evalArgs_plain (thn h2 fun us s1 ⟨vs, H1, I1, r, hz, hE⟩ => ⟨rfl, by rw [← r.length]; exact hz, I1.bk _ _ hCb, hNb.keeps I1.bk, TLb.keeps I1.bk, fun h' e' hx => ?_⟩)
  exact hR pins σ H1 s1 h' e' C us I1 hx hE
end

/-- a statement that lets no exception go -/
theorem PS.quiet {X : Cx} {st : Stmt} {t : TS} (h : PS X.nox st t) : PS X st t := fun pins s σ H D I hw => wpAny_mono (h pins s σ H D (I.wish _) hw) (fun _ _ q => q.unwish) fun _ _ z => False.elim z
/-! ### f-strings of ints -/
section
variable {X : Cx} {pos : Pos} {e v : Expr} {es : List Expr} {te : TE}
abbrev TJ := Str → St → Hp → VK → Prop
def PJ (X : Cx) (es : List Expr) (t : TJ) : Prop := ∀ (out : Str) (pins : List (Addr × Obj)) (s : Shared) (σ : St) (H : Hp) (Q : VK), Inv X pins σ H s → t out σ H Q → wpAny (model X.prog X.w) X.A (joinParts out (evalEach es X.env)) (EP X pins σ Q) X.xe s
def tJn : TJ := fun out _ H Q => out.length ≤ sizeLine ∧ Q (.str out) H
def tJc (te : TE) (tr : TJ) : TJ := fun out σ H Q => te σ H fun x H1 => ∃ y, x = .str y ∧ (out ++ y).length ≤ sizeLine ∧ tr (out ++ y) σ H1 Q
theorem pj_nil : PJ X [] tJn := fun out pins s σ H Q I h => joinParts_nil ⟨.str out, H, I.tok _, ⟨_, rfl⟩, h.2⟩ h.1
theorem pj_cons {tr : TJ} (he : PE X e te) (hr : PJ X es tr) : PJ X (e :: es) (tJc te tr) := by
  intro out pins s σ H Q I h
  show wpAny _ _ (joinParts out (eval e X.env :: evalEach es X.env)) _ _ _
  refine joinParts_cons (thn (he pins s σ H _ I h) fun u s1 ⟨x, H1, I1, r1, y, ex, hz, q1⟩ => ?_)
  subst ex
  obtain ⟨tk, rfl⟩ := r1
  exact ⟨hz, hr (out ++ y) pins s1 σ H1 Q I1 q1⟩
theorem pe_fstr {v2 : Expr} {t : TJ} (h : PJ X (e :: v2 :: es) t) : PE X (.JoinedStr (e :: v2 :: es) pos) (fun σ H Q => t Str.empty σ H Q) := fun pins s σ H Q I hq => JoinedStr_many (h Str.empty pins s σ H Q I hq)
theorem pe_fint (hv : PE X v te) : PE X (.FormattedValue v (-1) none pos) (fun σ H Q => te σ H fun x H1 => ∃ i, x = .int i ∧ i.natAbs.log2 < 1920 ∧ Q (.str (toString i)) H1) := by
  intro pins s σ H Q I h
  refine FormattedValue_plain (thn (hv pins s σ H _ I h) fun u s1 ⟨x, H1, I1, r1, i, ex, hz, q1⟩ => ?_)
  subst ex
  obtain ⟨tk, rfl⟩ := r1
  exact formatField_int_small hz ⟨.str _, H1, I1.tok _, ⟨_, rfl⟩, q1⟩
end

/-! ### f(e, ..), f a name that holds a def -/
section
variable {X : Cx} {CX : CXT} {ps : List Str} {sp : Sp} {E : XK} {x : Str} {p pos : Pos} {e : Expr} {es : List Expr} {t : TA} {i : Nat}
end
end L2
/-! ### isinstance of an exception that is held -/
namespace L2
open PySem PySem.Calls PyProof.Rows PySem.W Builtin Builtin.ObjectAttr Builtin.Getset_descriptor
/-- what is known of a class of exceptions -/
structure XC (K : Frag) (C : Addr) : Prop where
  cl : (clsIn K C).isSome = true
  ga : findIn K (.ref C) "__getattribute__" = some (some (.builtin "BaseException.__getattribute__"))
  gt : findIn K (.ref C) "__getattr__" = some none
  ca : findIn K (.ref C) "__class__" = some (some (.builtin "object.__class__"))
  gn : specialIn K (.builtin "object.__class__") "__get__" = some (some (.builtin "getset_descriptor.__get__"))
  tk : takesIn K (.builtin "object.__class__") = some true
  ob : mroIn K C (.type "object") = some true
  be : mroIn K C (.type "BaseException") = some true
section
variable {prog : Program} {w : World} {A : Around} {E : Value → Shared → Prop} {K : Frag} {x C : Addr} {h : Heap} {g : Array GenState} {d : Drawn} {t : Nat} {os : OsState}
theorem xc_look {M : Model} {o : Obj} (e : h.get? x = some o) (c : o.cls = .ref C) : Looks M h (typeOf (.ref x)) (.ref C) := c ▸ (Looks.ld e).andThen .now
theorem xc_get {R : Result → Shared → Prop} {tp : Value} (Y : K.In h) (F : XC K C) (LT : ∀ M : Model, Looks M h (typeOf (.ref x)) (.ref C)) (q : R (.ok (.ret (.ref C))) ⟨h, g, d, t, os⟩) :
    codeAny (model prog w) A (.call (.builtin "getset_descriptor.__get__") ⟨[.builtin "object.__class__", .ref x, tp], []⟩) R ⟨h, g, d, t, os⟩ := by
  have L0 := LT (model prog w)
  have L1 := looks_mroIn (M := model prog w) Y F.ob
  refine codeAny_call_builtin KF.slot_gs.plain KF.entry_gs (KF.slot_gs.check _ _ _ _ _ _ _ _ KF.type_class (KF.args_gs _ _ _) ?_)
  unfold Builtin.«getset_descriptor.__get__» descrGet
  rw [dga_obj]
  refine wpAny_bind (wpAny_pure ?_)
  unfold descrGetter descrCheckInstance descrNameAndClass isInstance
  simp only [KF.owner_class]
  repeat lk
  refine ⟨Code.quiet_builtin _ (by decide +kernel), codeAny_builtin KF.entry_class ?_⟩
  unfold Builtin.«object.__class__» shownTypeOf
  repeat lk
  exact q
theorem xc_find {M : Model} (Y : K.In h) (F : XC K C) : Looks M h (find (.ref x) (.ref C) "__class__") (.bind (.builtin "getset_descriptor.__get__") (.builtin "object.__class__")) := by
  have L1 := looks_findIn (M := M) Y F.ca
  have L2 : Looks M h (getOf (some (.builtin "object.__class__"))) (some (.builtin "getset_descriptor.__get__")) := looks_specialIn Y F.gn
  have L3 := looks_takesIn (M := M) Y F.tk
  exact L1.andThen (L2.andThen ((show Looks M h (dataDescriptor? (some (.builtin "object.__class__")) (some (.builtin "getset_descriptor.__get__"))) (some (.builtin "getset_descriptor.__get__", .builtin "object.__class__")) from L3.andThen .now).andThen (Looks.tag .now)))
theorem xc_entry {tk : Tok} {Q : Fin → Shared → Prop} (Y : K.In h) (F : XC K C) (LT : ∀ M : Model, Looks M h (typeOf (.ref x)) (.ref C)) (q : Q (.done (.ret (.ref C))) ⟨h, g, d, t, os⟩) :
    wpAny (model prog w) A (Builtin.«object.__getattribute__» ⟨[.ref x, .str "__class__" tk], []⟩) Q E ⟨h, g, d, t, os⟩ := by
  have L0 := LT (model prog w)
  have L1 := xc_find (x := x) (M := model prog w) Y F
  refine wpAny_bind (wpAny_pure (wpAny_bind (wpAny_pure (wpAny_bind (L0.at (wpAny_bind (L1.at ?_)))))))
  show wpAny _ _ (holding [.builtin "object.__class__"] (call (.builtin "getset_descriptor.__get__") [.builtin "object.__class__", .ref x, .ref C]) >>= ret) _ _ _
  exact wpAny_bind (wpAny_holding (wpAny_call (xc_get Y F LT (wpAny_pure q))))
theorem xc_check {nameV : Value} {M : Model} {Q : Unit → Shared → Prop} (Y : K.In h) (F : XC K C) (LT : ∀ M : Model, Looks M h (typeOf (.ref x)) (.ref C)) (q : Q () ⟨h, g, d, t, os⟩) :
    wpAny M A (checkBuiltinCall "BaseException.__getattribute__" ⟨[.ref x, nameV], []⟩) Q E ⟨h, g, d, t, os⟩ := by
  have e1 : builtinKind "BaseException.__getattribute__" = some .slot := by decide +kernel
  have e2 : splitId "BaseException.__getattribute__" = some ("BaseException", "__getattribute__") := by decide +kernel
  have ha := PySem.F.args_bexc_ga (.ref x) nameV
  have L0 := LT M
  have L1 := looks_mroIn (M := M) Y F.be
  simp only [checkBuiltinCall, e1, e2]
  refine wpAny_bind ?_
  unfold isInstance
  repeat (first | lk | wp_step)
  exact q
theorem xc_attr {Q : Option Value → Shared → Prop} (Y : K.In h) (F : XC K C) (LT : ∀ M : Model, Looks M h (typeOf (.ref x)) (.ref C)) (q : Q (some (.ref C)) ⟨h, g, d, t + 1, os⟩) : wpAny (model prog w) A (getAttr? (.ref x) "__class__") Q E ⟨h, g, d, t, os⟩ := by
  have L0 := LT (model prog w)
  have L1 := looks_findIn (M := model prog w) Y F.ga
  have L2 := looks_findIn (M := model prog w) Y F.gt
  have e2 : (Value.builtin "BaseException.__getattribute__" == Value.builtin "object.__getattribute__") = false := by decide +kernel
  have e1 : (onTheHeap (Value.ref C) && Value.builtin "BaseException.__getattribute__" == Value.builtin "object.__getattribute__") = false := by rw [e2]; rfl
  have f3 := PySem.F.excAttr_ValueError.ga.bind (.ref x)
  unfold getAttr? getAttrBy? getAttrBy
  refine wpAny_bind (wpAny_mkText (wpAny_bind (wpAny_attempt (wpAny_holding (wpAny_bind (L0.at (wpAny_bind (L1.at ?_))))))))
  dsimp only
  rw [e1]
  simp only [Bool.false_eq_true, if_false]
  repeat (any_goals (first | assumption | with_reducible refine L2.at ?_ | wp_step))
  refine codeAny_call_builtin PySem.F.excAttr_ValueError.ga.plain PySem.F.entry_bexc_ga (xc_check Y F LT (xc_entry Y F LT ?_))
  repeat (any_goals (first | assumption | lk | wp_step))
theorem kitx_exc (F : XC K C) : KitX K (.ref x) (.ref C) (fun h => ∃ o, h.get? x = some o ∧ o.cls = .ref C) where
  ty := fun _ _ _ ⟨_, e, c⟩ => xc_look e c
  it := fun _ _ Y _ => by
    have z := F.cl
    unfold clsIn at z
    split at z
    · rename_i ho
      intro A' Q' E' s' k q
      unfold isType loadHead
      exact wpAny_bind (wpAny_loadPart (k _ _ (Y _ _ ho)) (wpAny_pure q))
    · cases z
  ne := fun h tp dd its n sl Y htp => by
    have z := F.cl
    unfold clsIn at z
    split at z
    · rename_i ho
      refine Bool.eq_false_iff.mpr fun q => ?_
      have e : C = tp := Value.ref.inj (beq_iff_eq.mp q)
      subst e
      have y := (Y _ _ ho).symm.trans htp
      cases y
    · cases z
  ca := fun {_ _ _ _ _ s} Y ⟨_, e, c⟩ k => by
    obtain ⟨hh, g, d, t, os⟩ := s
    exact xc_attr Y F (fun M => xc_look e c) k
end
/-- the exception at a, of the class at C -/
def excO (C a : Addr) : HO := .ext fun h => ∃ o, h.get? a = some o ∧ o.cls = .ref C
theorem excO_ok {P : Program} {w : World} {H : Hp} {h : Heap} {a C : Addr} (e : ∃ o, h.get? a = some o ∧ o.cls = .ref C) : ObjOk P w H h a (excO C a) :=
  ⟨e, e.elim fun o q => ⟨o, q.1⟩, fun _ _ ⟨o, q, c⟩ k => ⟨o, k o q, c⟩⟩
/-- a class, as isinstance takes it -/
def clsV : V → Option Value
  | .ty n => some (.type n)
  | .ref c => some (.ref c)
  | _ => none
theorem clsV_rel {v : V} {c u : Value} (e : clsV v = some c) (r : RelV v u) : u = c := by
  cases v <;> first | (cases e; exact r) | cases e
section
variable {X : Cx}
theorem call_isx : CallR X (.builtin "isinstance") (fun xs H Q => ∃ a C v c b, xs = [.ref a, v] ∧ H a = some (excO C a) ∧ XC X.K C ∧ clsV v = some c ∧ kitOne X.K (.ref C) c = some b ∧ Q (.bl b) H) := by
  intro pins s σ H xs us Q I r h
  obtain ⟨a, C, v, c, b, rfl, ha, F, ev, e, q⟩ := h
  obtain ⟨u, w', rfl, ru, rw'⟩ := vals2 r
  obtain rfl : u = Value.ref a := ru
  obtain rfl := clsV_rel ev rw'
  exact kia_one (kitx_exc F) I.kIn (I.hok a _ ha).1 e (fun z => nomatch z) fun tk => ⟨.bl b, H, I.tok tk, rfl, q⟩
theorem call_isxK {K : Frag} (hK : X.K = K) : CallR X (.builtin "isinstance") (fun xs H Q => ∃ a C v c b, xs = [.ref a, v] ∧ H a = some (excO C a) ∧ XC K C ∧ clsV v = some c ∧ kitOne K (.ref C) c = some b ∧ Q (.bl b) H) := hK ▸ call_isx
theorem clsV_vals : ∀ {vs : List V} {cs its : List Value}, vs.mapM clsV = some cs → Vals vs its → its = cs
  | [], _, _, e, .nil => by cases e; rfl
  | v :: vs, cs, _, e, .cons r t => by
    rw [List.mapM_cons] at e
    obtain ⟨c, e1, e⟩ := Option.bind_eq_some_iff.mp e
    obtain ⟨cs', e2, e⟩ := Option.bind_eq_some_iff.mp e
    cases e
    rw [clsV_rel e1 r, clsV_vals e2 t]
/-- isinstance(e, (A, B, ..)) -/
theorem call_isxs : CallR X (.builtin "isinstance") (fun xs H Q => ∃ a C p vs cs b, xs = [.ref a, .ref p] ∧ H a = some (excO C a) ∧ XC X.K C ∧ H p = some (.tup vs) ∧ vs.mapM clsV = some cs ∧ kitAny X.K (.ref C) cs = some b ∧ Q (.bl b) H) := by
  intro pins s σ H xs us Q I r h
  obtain ⟨a, C, p, vs, cs, b, rfl, ha, F, hp, ev, e, q⟩ := h
  obtain ⟨u, w', rfl, ru, rw'⟩ := vals2 r
  obtain rfl : u = Value.ref a := ru
  obtain rfl : w' = Value.ref p := rw'
  obtain ⟨_, its, rv, ⟨oc, od, dt, sl⟩, ho, hc, n, hd⟩ := (show ObjOk X.prog X.w H s.heap p (.tup vs) from I.hok p _ hp)
  simp only at hc hd
  subst hc hd
  obtain rfl := clsV_vals ev rv
  exact kia_tup (kitx_exc F) I.kIn (I.hok a _ ha).1 ho e (fun z => nomatch z) fun tk => ⟨.bl b, H, I.tok tk, rfl, q⟩
theorem call_isxsK {K : Frag} (hK : X.K = K) : CallR X (.builtin "isinstance") (fun xs H Q => ∃ a C p vs cs b, xs = [.ref a, .ref p] ∧ H a = some (excO C a) ∧ XC K C ∧ H p = some (.tup vs) ∧ vs.mapM clsV = some cs ∧ kitAny K (.ref C) cs = some b ∧ Q (.bl b) H) := hK ▸ call_isxs
end
end L2
/-! ### try: .. except C as n: .. -/
namespace L2
open PySem PySem.Spec PyProof.Rows PySem.W
/-- the context within a try's body; within an except's suite -/
abbrev Cx.inTry (X : Cx) (pn : List (Addr × Obj)) (z : Value → Shared → Prop) : Cx := { X with pn := pn, xe := z }
abbrev Cx.inSuite (X : Cx) (e : Addr) : Cx := { X with A := X.A.mark (some (.ref e)), calm := false, xe := fun _ _ => False }
/-- all names forgotten -/
def nones (σ : St) : St := σ.map fun _ => none
theorem nones_none {σ : St} {i : Nat} {v : V} (h : (nones σ)[i]? = some (some v)) : False := by
  unfold nones at h
  rw [List.getElem?_map] at h
  cases e : σ[i]? with
  | none => rw [e] at h; cases h
  | some a => rw [e] at h; cases h
section
variable {X : Cx} {pins pn : List (Addr × Obj)} {σ : St} {H H' : Hp} {s s' : Shared} {z : Value → Shared → Prop} {e : Addr}
theorem Inv.toTry (I : Inv X pins σ H s) : Inv (X.inTry (X.pn ++ pins) z) [] σ H s :=
  ⟨⟨I.ok.mod, I.ok.kind, I.ok.glob, I.ok.blt, I.ok.above, I.ok.inj, I.ok.has, I.ok.cab, I.ok.hd, I.ok.frames, I.ok.stk, I.ok.exf, I.ok.bs, I.ok.bsz, I.ok.noex, I.ok.exfs, I.ok.funs, I.ok.frf⟩,
    I.os, I.bare, I.base, I.loc, I.cell, I.free, I.freeC, fun p hp => I.pin p (by rw [List.append_nil] at hp; exact hp), I.hok, I.len⟩
theorem Inv.unTry {pins' : List (Addr × Obj)} (I : Inv (X.inTry (X.pn ++ pins) z) pins' σ H s) : Inv X pins σ H s :=
  ⟨⟨I.ok.mod, I.ok.kind, I.ok.glob, I.ok.blt, I.ok.above, I.ok.inj, I.ok.has, I.ok.cab, I.ok.hd, I.ok.frames, I.ok.stk, I.ok.exf, I.ok.bs, I.ok.bsz, I.ok.noex, I.ok.exfs, I.ok.funs, I.ok.frf⟩,
    I.os, I.bare, I.base, I.loc, I.cell, I.free, I.freeC, fun p hp => I.pin p (List.mem_append_left _ hp), I.hok, I.len⟩
theorem Inv.toSuite (I : Inv X pins σ H s) : Inv (X.inSuite e) pins σ H s :=
  ⟨⟨I.ok.mod, I.ok.kind, I.ok.glob, I.ok.blt, I.ok.above, I.ok.inj, I.ok.has, I.ok.cab, fun q => absurd q Bool.false_ne_true, I.ok.frames, I.ok.stk, I.ok.exf, I.ok.bs, I.ok.bsz, I.ok.noex, I.ok.exfs, I.ok.funs, I.ok.frf⟩,
    I.os, I.bare, I.base, I.loc, I.cell, I.free, I.freeC, I.pin, I.hok, I.len⟩
theorem Inv.unSuite (hd : X.calm = true → X.A.handled = none) (I : Inv (X.inSuite e) pins σ H s) : Inv X pins σ H s :=
  ⟨⟨I.ok.mod, I.ok.kind, I.ok.glob, I.ok.blt, I.ok.above, I.ok.inj, I.ok.has, I.ok.cab, hd, I.ok.frames, I.ok.stk, I.ok.exf, I.ok.bs, I.ok.bsz, I.ok.noex, I.ok.exfs, I.ok.funs, I.ok.frf⟩,
    I.os, I.bare, I.base, I.loc, I.cell, I.free, I.freeC, I.pin, I.hok, I.len⟩
theorem SP.unTry {D : Ends} {f : Flow} (h : SP (X.inTry (X.pn ++ pins) z) [] D f s') : SP X pins D f s' := by
  cases f with
  | next => obtain ⟨σ', H', I, q⟩ := h; exact ⟨σ', H', I.unTry, q⟩
  | brk => obtain ⟨σ', H', I, q⟩ := h; exact ⟨σ', H', I.unTry, q⟩
  | cont => obtain ⟨σ', H', I, q⟩ := h; exact ⟨σ', H', I.unTry, q⟩
  | ret u => obtain ⟨v, σ', H', I, r, q⟩ := h; exact ⟨v, σ', H', I.unTry, r, q⟩
/-- the frame's names change anyhow -/
theorem Inv.goes {h' : Heap} {m' : Str → Option Value} {t' : Nat} (I : Inv X pins σ H s) (hn : h'.Ns X.env.locals m') (hs : Heap.SameBut X.env.locals s.heap h') : Inv X pins (nones σ) H { s with heap := h', toks := t' } := by
  have lt : ∀ {b : Addr} {o : Obj}, X.s₀.heap.get? b = some o → b ≠ X.env.locals := fun e => Nat.ne_of_lt (Nat.lt_of_lt_of_le (Heap.lt_size e) I.ok.above)
  refine ⟨I.ok, I.os, I.bare, ⟨fun b o e n hb hx => ?_, fun b o e n hb hx => ?_, I.base.free, fun b o e hx => ?_, I.base.tups, I.base.frzs, I.base.tbls⟩, ⟨m', hn, fun i x v _ e2 _ => (nones_none e2).elim⟩, fun y c e => ?_, I.free, I.freeC, fun p hp => ?_, fun b ob e => ?_, ?_⟩
  · exact (hs.2 b (lt e)).trans (I.base.keep b o e n hb hx)
  · obtain ⟨sl, e1⟩ := I.base.slot b o e n hb hx
    exact ⟨sl, (hs.2 b (lt e)).trans e1⟩
  · obtain ⟨o', e1⟩ := I.base.there b o e hx
    exact ⟨o', (hs.2 b (lt e)).trans e1⟩
  · obtain ⟨w', q⟩ := I.cell y c e
    exact ⟨w', q.sameBut hs (I.cne y c e)⟩
  · obtain ⟨e, n, ne, nf, d⟩ := I.pin p hp
    exact ⟨(hs.2 p.1 ne).trans e, n, ne, nf, d⟩
  · refine (I.hok b ob e).stay (fun c v hc q => (hs.2 c fun ec => ?_).trans q) (fun _ q => q) fun _ _ q => q
    have fr := I.free
    rw [← ec] at fr
    rcases hc with rfl | hc
    · rw [fr] at e; cases e
    · rw [fr] at hc; cases hc
  · unfold nones
    rw [List.length_map]
    exact I.len
theorem Inv.nones (I : Inv X pins σ H s) : Inv X pins (L2.nones σ) H s := I.weak (by unfold L2.nones; rw [List.length_map]) fun i v e => (nones_none e).elim
/-- an exception that is held is tracked -/
theorem Inv.hold {C : Addr} (I : Inv X pins σ H s) (hn : H e = none) (hL : e ≠ X.env.locals) (hnew : X.s₀.heap.get? e = none ∧ (∀ x c, X.env.cells.lookup x = some c → c ≠ e) ∧ (∀ p ∈ X.pn ++ pins, p.1 ≠ e)) (ho : ∃ o, s.heap.get? e = some o ∧ o.cls = .ref C) :
    Inv X pins σ (upd H e (excO C e)) s := by
  obtain ⟨n0, nc, np⟩ := hnew
  have ne0 : ∀ {b : Addr} {o : Obj}, X.s₀.heap.get? b = some o → b ≠ e := fun {b o} q z => by rw [z, n0] at q; cases q
  have neh : ∀ {b : Addr} {o : HO}, H b = some o → b ≠ e := fun q => ne_of_none q hn
  refine ⟨I.ok, I.os, I.bare, ⟨I.base.keep, I.base.slot, fun b o q n hx => ?_, I.base.there, fun b xs q => ?_, fun b o u q => ?_, fun b ps q => ?_⟩, I.loc, I.cell, ?_, fun x c q => ?_, fun p hp => ?_, fun b o q => ?_, I.len⟩
  · rw [upd_ne (ne0 q)]; exact I.base.free b o q n hx
  · have z := I.base.tups b xs q
    rw [upd_ne (neh z)]; exact z
  · have z := I.base.frzs b o u q
    rw [upd_ne (neh z)]; exact z
  · obtain ⟨more, z⟩ := I.base.tbls b ps q
    exact ⟨more, by rw [upd_ne (neh z)]; exact z⟩
  · rw [upd_ne (Ne.symm hL)]; exact I.free
  · rw [upd_ne (nc x c q)]; exact I.freeC x c q
  · obtain ⟨a1, a2, a3⟩ := I.pin p hp
    exact ⟨a1, by rw [upd_ne (np p hp)]; exact a2, a3⟩
  · by_cases hb : b = e
    · subst hb
      rw [upd_same] at q
      cases q
      exact excO_ok ho
    · rw [upd_ne hb] at q
      exact (I.hok b o q).stay (fun _ _ _ q => q) (fun c q => by rw [upd_ne (neh q)]; exact q) fun c xs q => by rw [upd_ne (neh q)]; exact q
end
/-- D with all names forgotten behind a suite -/
def Ends.forget (D : Ends) (n : Nat) : Ends := { nx := fun _ H => D.nx (List.replicate n none) H, rt := D.rt, bk := fun _ H => D.bk (List.replicate n none) H, ct := fun _ H => D.ct (List.replicate n none) H }
theorem nones_rep {σ : St} : nones σ = List.replicate σ.length none := by
  unfold nones
  induction σ with
  | nil => rfl
  | cons a r ih => rw [List.map_cons, ih, List.length_cons, List.replicate_succ]
def tTry (K : Frag) (hc : Addr) (i n : Nat) (tb : XK → TS) (ts : TS) : TS := fun D σ H => ∃ E : XK, tb E D σ H ∧
  ∀ (C e : Addr) (H' : Hp), E (.ref C) none H' → H' e = none → exmOne K (.ref C) (.ref hc) = some true ∧ ts (D.forget n) ((List.replicate n none).set i (some (.ref e))) (upd H' e (excO C e))
theorem ps_try {X : Cx} {x n : Str} {hc : Addr} {i len : Nat} {body suite : List Stmt} {b₀ : Stmt} {tb : XK → TS} {ts : TS} {np hpos pos : Pos} (F : Fnc X) (hl : X.N.length = len) (hN : X.N.Nodup) (hi : X.N[i]? = some n) (hx : Loc X.env.scope n) (hloc : X.env.kindOf n = some .local) (hg : Gl X x) (hm : X.mg x = some (.ref hc))
    (hb : ∀ (E : XK) pn z, Passes (CX1 X.prog X.w) (X.inTry pn z) E → PSs (X.inTry pn z) body (tb E)) (hs : ∀ e, PSs (X.inSuite e) (b₀ :: suite) ts) (hf : X.fn n = true ∨ X.env.scope.names.lookup n = some .local := by first | exact .inl rfl | exact .inr rfl) (hdb : (x == ("__debug__" : Str)) = false := by decide) :
    PS X (.Try body [.ExceptHandler (some (.Name x np)) (some n) (b₀ :: suite) hpos] [] [] pos) (tTry X.K hc i len tb ts) := by
  intro pins s σ H D I ⟨E, hw, hE⟩
  have hP : Passes (CX1 X.prog X.w) (X.inTry (X.pn ++ pins) fun e s' => ∃ σ' H s, Inv X pins σ' H s ∧ CX1 X.prog X.w X.stack H s E e s') E := fun pins' σ' H1 s1 e s' J q => ⟨σ', H1, s1, J.unTry, q⟩
  refine wpAny_Try_except (wpAny_mono (hb E _ _ hP [] s σ H D I.toTry hw) (fun f s1 q => ?_) fun ev s1 q => ?_)
  · have q' := SP.unTry q
    cases f with
    | next => exact wpAny_execs_nil q'
    | ret u => exact q'
    | brk => exact q'
    | cont => exact q'
  obtain ⟨σ1, H1, s0, I0, a, C, H', B, a0, rfl, hEE, os, bare, u, hB, hn, fl, kB, tB⟩ := q
  obtain ⟨hmt, hts⟩ := hE C a H' hEE hn
  have nfr : a ∉ frs X.stack := fun z => by
    obtain ⟨_, o, e1, d⟩ := fl.2.2.1.mem z
    obtain ⟨oe, vs, e2, _, dd, _⟩ := fl.first
    rw [e1] at e2
    cases e2
    exact d _ dd
  have at_ : ∀ {h5 : Heap}, B.StaysIn h5 → s1.heap.UpToSlots h5 → Inv X pins σ1 H' { s1 with heap := h5 } := fun {h5} st up =>
    I0.call' (s' := { s1 with heap := h5 }) (ch := []) os (un_fly u fl.2.2.1 kB tB st up) (hB.kept st) bare fun _ z => absurd z (by simp)
  have bn := fl.2.1
  have new0 : s0.heap.get? a = none := by
    cases q : s0.heap.get? a with
    | none => rfl
    | some o =>
      obtain ⟨o', z⟩ := tB a o q nfr
      rw [bn] at z
      cases z
  have hnL : a ≠ X.env.locals := fun z => nfr (by rw [F.stk, z]; exact frs_in (List.mem_cons_self ..) F.fr)
  have new : X.s₀.heap.get? a = none ∧ (∀ x c, X.env.cells.lookup x = some c → c ≠ a) ∧ (∀ p ∈ X.pn ++ pins, p.1 ≠ a) := by
    refine ⟨?_, fun y c q z => ?_, fun p hp z => ?_⟩
    · cases q : X.s₀.heap.get? a with
      | none => rfl
      | some o =>
        obtain ⟨o', z⟩ := I0.base.there a o q (by rw [F.ex]; simp)
        rw [new0] at z
        cases z
    · obtain ⟨v, o, q1, _⟩ := I0.cell y c q
      rw [z, new0] at q1
      cases q1
    · have q1 := (I0.pin p hp).1
      rw [z, new0] at q1
      cases q1
  refine wpAny_looks_onW (by rw [I.ok.frames, F.stk]) F.fr (by rw [← F.stk]; exact fl) fun h4 held4 up4 => ?_
  refine wpAny_landsW held4 fun h5 fl5 up5 => ?_
  have I5 : Inv (X.inSuite a) pins σ1 H' { s1 with heap := h5 } := (at_ fl5.1 (up4.trans up5)).toSuite
  refine wpAny_handleBy_cons (codeAny_handlers_test (ld_glob I5 hg hm ?_ hdb)) (by intro q; cases q)
  obtain ⟨ob, ho, hcl⟩ := fl5.there
  refine (exm_one (K := X.K) I5.kIn (xc_look ho hcl) hmt).here ?_
  refine codeAny_handlers_suite_as ?_
  refine lands_againW fl5 fun h6 fl6 up6 => ?_
  obtain ⟨ob6, ho6, hcl6⟩ := fl6.there
  have I6 : Inv X pins (nones σ1) (upd H' a (excO C a)) { s1 with heap := h6 } := ((at_ fl6.1 ((up4.trans up5).trans up6)).nones).hold hn hnL new ⟨ob6, ho6, hcl6⟩
  have es : (nones σ1) = List.replicate len none := by rw [nones_rep, I0.len, hl]
  rw [es] at I6
  refine store_ok (X := X.inSuite a) (v := .ref a) I6.toSuite hN hi hx rfl (fun s7 I7 => ?_) hf
  refine wpAny_mono (hs a pins s7 _ _ _ I7 hts) (fun f s8 q => ?_) fun _ _ z => z.elim
  have go : ∀ {σ8 : St} {H8 : Hp}, Inv (X.inSuite a) pins σ8 H8 s8 → (∀ s9, Inv X pins (List.replicate len none) H8 s9 → SP X pins D f s9) →
      wpAny (model X.prog X.w) X.A (do bindName X.env n .none; unbindBehindTheSuite X.env n hpos) (fun _ s9 => SP X pins D f s9) X.xe s8 := fun {σ8 H8} I8 k => by
    obtain ⟨m, hns, _⟩ := I8.loc
    refine wpAny_nameGoes hloc hns (by rw [I.ok.kind]; rfl) fun h9 m9 hn9 hs9 => ?_
    have J := (Inv.unSuite I.ok.hd I8).goes (t' := s8.toks + 1) hn9 hs9
    have e8 : (nones σ8) = List.replicate len none := by rw [nones_rep, I8.len]; exact congrArg (fun k => List.replicate k none) hl
    rw [e8] at J
    exact k _ J
  cases f with
  | next => obtain ⟨σ8, H8, I8, q⟩ := q; exact go I8 fun s9 J => ⟨_, _, J, q⟩
  | brk => obtain ⟨σ8, H8, I8, q⟩ := q; exact go I8 fun s9 J => ⟨_, _, J, q⟩
  | cont => obtain ⟨σ8, H8, I8, q⟩ := q; exact go I8 fun s9 J => ⟨_, _, J, q⟩
  | ret u => obtain ⟨v, σ8, H8, I8, r, q⟩ := q; exact go I8 fun s9 J => ⟨v, _, _, J, r, q⟩
end L2
/-! ### for x in range(hi, lo, -1) -/
namespace L2
open PySem PySem.Spec PyProof.Rows
section
variable {X : Cx} {tg : Expr}
end
end L2
/-! ### any thing as a degree, and its bounds -/
namespace L2
open PySem PySem.Spec PyProof.Rows
def Thing (H : Hp) (v : V) : Prop := (∃ i, v = .int i) ∨ (∃ b, v = .bl b) ∨ v = .non ∨ (∃ x, v = .str x) ∨ (∃ a xs, v = .ref a ∧ H a = some (.lst xs)) ∨ (∃ a xs, v = .ref a ∧ H a = some (.tup xs))
def isI (v : V) : Bool := match v with
  | .int _ => true
  | _ => false
def Within (lo hi : Int) (v : V) : Prop := ∃ i, v = .int i ∧ lo ≤ i ∧ i ≤ hi
theorem Thing.mono {H H' : Hp} {v : V} (s : Same H H') (h : Thing H v) : Thing H' v := by
  rcases h with h | h | h | h | ⟨a, xs, e, h⟩ | ⟨a, xs, e, h⟩
  · exact .inl h
  · exact .inr (.inl h)
  · exact .inr (.inr (.inl h))
  · exact .inr (.inr (.inr (.inl h)))
  · exact .inr (.inr (.inr (.inr (.inl ⟨a, xs, e, s _ _ h⟩))))
  · exact .inr (.inr (.inr (.inr (.inr ⟨a, xs, e, s _ _ h⟩))))
theorem within_int {lo hi : Int} {v : V} (h : Within lo hi v) : isI v = true := by obtain ⟨i, rfl, _⟩ := h; rfl
theorem kit_none_int {K : PySem.W.Frag} : PySem.W.kitOne K (.type "NoneType") (.type "int") = some false := kit_of (by decide +kernel) (by decide +kernel) (by decide +kernel)
theorem kit_str_int {K : PySem.W.Frag} : PySem.W.kitOne K (.type "str") (.type "int") = some false := kit_of (by decide +kernel) (by decide +kernel) (by decide +kernel)
theorem kit_list_int {K : PySem.W.Frag} : PySem.W.kitOne K (.type "list") (.type "int") = some false := kit_of (by decide +kernel) (by decide +kernel) (by decide +kernel)
theorem kit_tuple_int {K : PySem.W.Frag} : PySem.W.kitOne K (.type "tuple") (.type "int") = some false := kit_of (by decide +kernel) (by decide +kernel) (by decide +kernel)
def sp_whole : Sp := fun vs H Q _ => ∃ v, vs = [v] ∧ Thing H v ∧ Q (.bl (isI v)) H
end L2
/-! ### for x, y in zip(xs, ys) -/
namespace L2
open PySem PySem.Spec PyProof.Rows
section
variable {X : Cx} {pins : List (Addr × Obj)} {σ : St} {H : Hp} {s : Shared} {h' : Heap} {ch : List Addr} {t' : Nat}
end
section
variable {X : Cx} {elts : List Expr} {k : Nat} {tpos p pos : Pos} {e f : Expr} {te tf : TE}
end
/-- the target x, y -/
theorem ownG_pair {K : PySem.W.Frag} : OwnG 2 (gTup K 2 (gCons (gName 0) (gCons (gName 1) gNil))) := by
  intro v σ H Q ⟨a, xs, e, hq, hl, x, r, ex, y, r2, er, en, q⟩
  refine ⟨a, xs, e, hq, hl, x, r, ex, y, r2, er, en, q, ?_, fun i hi => ?_⟩
  · rw [List.length_set, List.length_set]
  · rw [List.getElem?_set_ne (by omega), List.getElem?_set_ne (by omega)]
theorem mono_pair {K : PySem.W.Frag} : ∀ (σ : St) (H : Hp) (R R' : St → Hp → Prop) (x : V), (∀ σ' H', R σ' H' → R' σ' H') → gTup K 2 (gCons (gName 0) (gCons (gName 1) gNil)) x σ H R → gTup K 2 (gCons (gName 0) (gCons (gName 1) gNil)) x σ H R' :=
  fun σ H R R' v k ⟨a, xs, e, hq, hl, x, r, ex, y, r2, er, en, q⟩ => ⟨a, xs, e, hq, hl, x, r, ex, y, r2, er, en, k _ _ q⟩
theorem pg_tupK {X : Cx} {es : List Expr} {k : Nat} {pos : Pos} {t : TGs} {n : Nat} {K : PySem.W.Frag} (hK : X.K = K) (hc : X.calm = true) (h : PGs X es t)
    (hn : (assignEach es X.env).length = n := by rfl) (hst : (assignEach es X.env).findIdx? (·.1) = none := by rfl) : PG X (.Tuple es k pos) (gTup K n t) := hK ▸ pg_tup hc h hn hst
end L2
/-! ### less than -/
namespace PySem.SeqAt
open AutoSeq1 (wpAny_loadPart')
open MeetsSeq MeetsSeq2 MeetsSeq3 SeqRoads2
def LtAt (A : Around) (s : Shared) (y x : Value) (b : Bool) : Prop :=
  ∀ (prog : Program) (w : World) (E : Value → Shared → Prop) (Q : Value → Shared → Prop), Q (.bool b) s → wpAny (model prog w) A (richCompare .Lt y x) Q E s
/-- by the first place that differs -/
def lex (e f : Nat → Bool) (m n : Nat) : Nat → Nat → Bool
  | 0, _ => decide (m < n)
  | k + 1, i => if e i = true then lex e f m n k (i + 1) else f i
theorem lt_loopAt (l b : Addr) (items items2 : Array Value) (n n2 : Nat) (dd dd2 : Option Addr) (sl sl2 : Array (Option Value)) (e f : Nat → Bool) (k : Nat) :
    ∀ i : Nat, min items.size items2.size - i = k → Meets (Builtin.«list.__eq__.loop» ⟨[.ref l, .ref b, rawInt i, rawInt 0], []⟩)
      (fun A R s => s.heap.get? l = some { cls := .type "list", dict := dd, data := .seq items n, slots := sl } ∧ s.heap.get? b = some { cls := .type "list", dict := dd2, data := .seq items2 n2, slots := sl2 } ∧
        (∀ j (h1 : j < items.size) (h2 : j < items2.size), EqAt A.in1 s items[j] items2[j] (e j)) ∧ (∀ j (h1 : j < items.size) (h2 : j < items2.size), e j = false → LtAt A.in1 s items[j] items2[j] (f j)) ∧
        R (.ok (.ret (.bool (lex e f items.size items2.size k i)))) s) := by
  induction k with
  | zero =>
    intro i hk prog w A R s h
    obtain ⟨hp, g, d, tk, os⟩ := s; obtain ⟨hl, hb, he, hf, h⟩ := h
    wp_walk using wpAny_loadPart' hl, wpAny_loadPart' hb
    rcases (by omega : items.size ≤ i ∨ (i < items.size ∧ items2.size ≤ i)) with q | ⟨q1, q2⟩
    · have hi1 : items[((i : Nat) : Int).toNat]? = none := by simp; omega
      rw [hi1]
      wp_walk using wpAny_loadPart' hl, wpAny_loadPart' hb
      exact h
    · have hi1 : items[((i : Nat) : Int).toNat]? = some items[i] := by simp [q1]
      have hi2 : items2[((i : Nat) : Int).toNat]? = none := by simp; omega
      rw [hi1, hi2]
      wp_walk using wpAny_loadPart' hl, wpAny_loadPart' hb
      exact h
  | succ k ih =>
    intro i hk prog w A R s h
    obtain ⟨hp, g, d, tk, os⟩ := s; obtain ⟨hl, hb, he, hf, h⟩ := h
    wp_walk using wpAny_loadPart' hl, wpAny_loadPart' hb
    have hlt : i < items.size := by omega
    have hlt2 : i < items2.size := by omega
    have hi1 : items[((i : Nat) : Int).toNat]? = some items[i] := by simp [hlt]
    have hi2 : items2[((i : Nat) : Int).toNat]? = some items2[i] := by simp [hlt2]
    have hc : ((i : Int) + 1) = ((i + 1 : Nat) : Int) := by push_cast; rfl
    unfold lex at h
    rw [hi1, hi2]
    refine wpAny_bind (he i hlt hlt2 prog w _ _ ?_)
    cases hb' : e i with
    | true =>
      rw [hb', if_pos rfl] at h
      wp_walk
      rw [hc]
      exact ⟨plainId_quiet plain_eq_loop _, codeAny_builtin entry_eq_loop (by
        rw [Around.under_plainId plain_eq_loop _]
        exact ih (i + 1) (by omega) prog w A R _ ⟨hl, hb, he, hf, h⟩)⟩
    | false =>
      rw [hb', if_neg (by simp)] at h
      wp_walk using wpAny_loadPart' hl, wpAny_loadPart' hb
      rw [hi1, hi2]
      refine wpAny_bind (hf i hlt hlt2 hb' prog w _ _ ?_)
      wp_walk
      exact h
theorem list_ltAt (l b : Addr) (items items2 : Array Value) (n n2 : Nat) (dd dd2 : Option Addr) (sl sl2 : Array (Option Value)) (e f : Nat → Bool) :
    Meets (Builtin.«list.__lt__» ⟨[.ref l, .ref b], []⟩)
      (fun A R s => s.heap.get? l = some { cls := .type "list", dict := dd, data := .seq items n, slots := sl } ∧ s.heap.get? b = some { cls := .type "list", dict := dd2, data := .seq items2 n2, slots := sl2 } ∧
        (∀ j (h1 : j < items.size) (h2 : j < items2.size), EqAt A.in1 s items[j] items2[j] (e j)) ∧ (∀ j (h1 : j < items.size) (h2 : j < items2.size), e j = false → LtAt A.in1 s items[j] items2[j] (f j)) ∧
        R (.ok (.ret (.bool (lex e f items.size items2.size (min items.size items2.size) 0)))) s) := by
  intro prog w A R s h
  obtain ⟨hp, g, d, tk, os⟩ := s; obtain ⟨hl, hb, he, hf, h⟩ := h
  have f3 := AutoSeq1.sub_list_list
  wp_walk using wpAny_loadPart' hl, wpAny_loadPart' hb
  exact ⟨plainId_quiet plain_eq_loop _, codeAny_builtin entry_eq_loop (by
    rw [Around.under_plainId plain_eq_loop _]
    exact lt_loopAt l b items items2 n n2 dd dd2 sl sl2 e f _ 0 rfl prog w A R _ ⟨hl, hb, he, hf, by simpa using h⟩)⟩
theorem tuple_ltAt (l b : Addr) (items items2 : Array Value) (n n2 : Nat) (dd dd2 : Option Addr) (sl sl2 : Array (Option Value)) (e f : Nat → Bool) :
    Meets (Builtin.«tuple.__lt__» ⟨[.ref l, .ref b], []⟩)
      (fun A R s => s.heap.get? l = some { cls := .type "tuple", dict := dd, data := .seq items n, slots := sl } ∧ s.heap.get? b = some { cls := .type "tuple", dict := dd2, data := .seq items2 n2, slots := sl2 } ∧
        (∀ j (h1 : j < items.size) (h2 : j < items2.size), EqAt A.in1 s items[j] items2[j] (e j)) ∧ (∀ j (h1 : j < items.size) (h2 : j < items2.size), e j = false → LtAt A.in1 s items[j] items2[j] (f j)) ∧
        R (.ok (.ret (.bool (lex e f items.size items2.size (min items.size items2.size) 0)))) s) :=
  .of_wp fun prog w A R s h => by
    obtain ⟨hp, g, d, tk, os⟩ := s; obtain ⟨hl, hb, he, hf, h⟩ := h
    have f2 := AutoSeq1.sub_tuple_tuple
    have hZ : (items.toList.zip items2.toList).length = min items.size items2.size := by simp
    wp_walk using wpAny_loadPart' hl, wpAny_loadPart' hb, wpAny_forIn_list _ (fun rest b s' => b.1 = none ∧ s' = ⟨hp, g, d, tk, os⟩ ∧ ∃ i, rest = (items.toList.zip items2.toList).drop i ∧ i ≤ min items.size items2.size ∧
      R (.ok (.ret (.bool (lex e f items.size items2.size (min items.size items2.size - i) i)))) ⟨hp, g, d, tk, os⟩) _
    case turn =>
      rintro ⟨y, x⟩ rest b s' ⟨hb', rfl, i, hz, hile, hR⟩
      have hlt : i < (items.toList.zip items2.toList).length := by
        rcases Nat.lt_or_ge i (items.toList.zip items2.toList).length with h' | h'
        · exact h'
        · rw [List.drop_of_length_le h'] at hz; cases hz
      have hm : i < min items.size items2.size := hZ ▸ hlt
      have h1 : i < items.size := Nat.lt_of_lt_of_le hm (Nat.min_le_left _ _)
      have h2 : i < items2.size := Nat.lt_of_lt_of_le hm (Nat.min_le_right _ _)
      rw [List.drop_eq_getElem_cons hlt] at hz
      injection hz with hyx hrest
      have hy : y = items[i] := by have := congrArg Prod.fst hyx; simpa using this
      have hx : x = items2[i] := by have := congrArg Prod.snd hyx; simpa using this
      subst hy hx
      rw [show min items.size items2.size - i = (min items.size items2.size - (i + 1)) + 1 by omega, lex] at hR
      refine wpAny_bind (he i h1 h2 prog w _ _ ?_)
      cases hy : e i with
      | true =>
        rw [hy, if_pos rfl] at hR
        wp_walk
        exact ⟨rfl, rfl, i + 1, hrest, by omega, hR⟩
      | false =>
        rw [hy, if_neg (by simp)] at hR
        rw [if_pos (show (!false) = true from rfl)]
        refine wpAny_bind (wpAny_rule ?_)
        refine wpAny_bind (hf i h1 h2 hy prog w _ _ ?_)
        wp_walk
        exact ⟨_, rfl, hR⟩
    case fin =>
      rintro ⟨b1, b2⟩ s' ⟨hb', rfl, i, hz, hile, hR⟩
      simp only at hb'
      subst hb'
      have hi : i = min items.size items2.size := by
        rcases Nat.lt_or_ge i (items.toList.zip items2.toList).length with h' | h'
        · rw [List.drop_eq_getElem_cons h'] at hz; cases hz
        · omega
      subst hi
      rw [Nat.sub_self] at hR
      wp_walk
      exact ⟨_, rfl, hR⟩
    case h =>
      exact ⟨rfl, rfl, 0, rfl, Nat.zero_le _, by simpa using h⟩
section
variable {A : Around} {s : Shared}
theorem LtAt.int_int (i : Int) (t : Tok) (j : Int) (u : Tok) : LtAt A s (.int i t) (.int j u) (decide (i < j)) := fun prog w E Q h => wpAny_lt_int h
theorem LtAt.lists {l b : Addr} {items items2 : Array Value} {e f : Nat → Bool} (hl : s.heap.IsList l items) (hb : s.heap.IsList b items2) (hu : A.units < cLine)
    (he : ∀ j (h1 : j < items.size) (h2 : j < items2.size), EqAt A.in1 s items[j] items2[j] (e j)) (hf : ∀ j (h1 : j < items.size) (h2 : j < items2.size), e j = false → LtAt A.in1 s items[j] items2[j] (f j)) :
    LtAt A s (.ref l) (.ref b) (lex e f items.size items2.size (min items.size items2.size) 0) := fun prog w E Q h => by
  obtain ⟨⟨cls, dd, data, sl⟩, ho, hc, n, hd⟩ := id hl
  obtain ⟨⟨cls2, dd2, data2, sl2⟩, ho2, hc2, n2, hd2⟩ := id hb
  simp only at hc hd hc2 hd2
  subst hc hd hc2 hd2
  exact richCompare_meets_room (op := .Lt) ⟨_, ho, rfl⟩ ⟨_, ho2, rfl⟩ F.slot_list_lt F.entry_list_lt (F.args_list_lt_2 _ _) (list_ltAt l b items items2 n n2 dd dd2 sl sl2 e f)
    ⟨ho, ho2, he, hf, show Value.bool (lex e f items.size items2.size (min items.size items2.size) 0) ≠ Value.notImplemented ∧ Q (.bool (lex e f items.size items2.size (min items.size items2.size) 0)) s from ⟨(fun x => nomatch x), h⟩⟩ hu
theorem LtAt.tuples {l b : Addr} {items items2 : Array Value} {e f : Nat → Bool} (hl : s.heap.IsTuple l items) (hb : s.heap.IsTuple b items2) (hu : A.units < cLine)
    (he : ∀ j (h1 : j < items.size) (h2 : j < items2.size), EqAt A.in1 s items[j] items2[j] (e j)) (hf : ∀ j (h1 : j < items.size) (h2 : j < items2.size), e j = false → LtAt A.in1 s items[j] items2[j] (f j)) :
    LtAt A s (.ref l) (.ref b) (lex e f items.size items2.size (min items.size items2.size) 0) := fun prog w E Q h => by
  obtain ⟨⟨cls, dd, data, sl⟩, ho, hc, n, hd⟩ := id hl
  obtain ⟨⟨cls2, dd2, data2, sl2⟩, ho2, hc2, n2, hd2⟩ := id hb
  simp only at hc hd hc2 hd2
  subst hc hd hc2 hd2
  exact richCompare_meets_room (op := .Lt) ⟨_, ho, rfl⟩ ⟨_, ho2, rfl⟩ F.slot_tuple_lt F.entry_tuple_lt (F.args_tuple_lt_2 _ _) (tuple_ltAt l b items items2 n n2 dd dd2 sl sl2 e f)
    ⟨ho, ho2, he, hf, show Value.bool (lex e f items.size items2.size (min items.size items2.size) 0) ≠ Value.notImplemented ∧ Q (.bool (lex e f items.size items2.size (min items.size items2.size) 0)) s from ⟨(fun x => nomatch x), h⟩⟩ hu
/-- the sort's own question of two lists -/
theorem key_lists {prog : Program} {w : World} {E : Value → Shared → Prop} {l b : Addr} {items items2 : Array Value} {e f : Nat → Bool} {Q : Bool → Shared → Prop} (hl : s.heap.IsList l items) (hb : s.heap.IsList b items2) (hu : A.units < cLine)
    (he : ∀ j (h1 : j < items.size) (h2 : j < items2.size), EqAt A.in1 s items[j] items2[j] (e j)) (hf : ∀ j (h1 : j < items.size) (h2 : j < items2.size), e j = false → LtAt A.in1 s items[j] items2[j] (f j))
    (h : Q (lex e f items.size items2.size (min items.size items2.size) 0) s) : wpAny (model prog w) A (PyProof.Rows.keyLt' PyProof.Rows.oneType' (.ref l) (.ref b)) Q E s := by
  rw [PyProof.Rows.keyLt'_oneType, PyProof.Rows.oneLt'_eq]
  simp only [if_true]
  refine wpAny_bind (wpAny_cRoomFor hu ?_)
  obtain ⟨⟨cls, dd, data, sl⟩, ho, hc, n, hd⟩ := id hl
  obtain ⟨⟨cls2, dd2, data2, sl2⟩, ho2, hc2, n2, hd2⟩ := id hb
  simp only at hc hd hc2 hd2
  subst hc hd hc2 hd2
  refine wpAny_bind (wpAny_callSpecialIfBound?_slot (T := "list") ⟨_, ho, rfl⟩ F.slot_list_lt (call_meets F.slot_list_lt ⟨_, ho, rfl⟩ F.entry_list_lt (F.args_list_lt_2 _ _) (list_ltAt l b items items2 n n2 dd dd2 sl sl2 e f) ⟨ho, ho2, he, hf, ?_⟩))
  exact wpAny_truthy_bool h
end
end PySem.SeqAt
/-! ### < of ints, lists, tuples at any depth -/
namespace L2
open PySem PySem.Spec PyProof.Rows
/-- what < tells, d deep -/
inductive LtR (K : PySem.W.Frag) (H : Hp) : Nat → V → V → Bool → Prop where
  | int (d : Nat) (i j : Int) : LtR K H d (.int i) (.int j) (decide (i < j))
  | lists {d : Nat} {a b : Addr} {xs ys : List V} (es fs : Nat → Bool) (h1 : SqL K H a xs) (h2 : SqL K H b ys) (he : ∀ (j : Nat) x y, xs[j]? = some x → ys[j]? = some y → EqR K H d x y (es j)) (hf : ∀ (j : Nat) x y, xs[j]? = some x → ys[j]? = some y → es j = false → LtR K H d x y (fs j)) :
    LtR K H (d + 1) (.ref a) (.ref b) (SeqAt.lex es fs xs.length ys.length (min xs.length ys.length) 0)
  | tuples {d : Nat} {a b : Addr} {xs ys : List V} (es fs : Nat → Bool) (h1 : SqT K H a xs) (h2 : SqT K H b ys) (he : ∀ (j : Nat) x y, xs[j]? = some x → ys[j]? = some y → EqR K H d x y (es j)) (hf : ∀ (j : Nat) x y, xs[j]? = some x → ys[j]? = some y → es j = false → LtR K H d x y (fs j)) :
    LtR K H (d + 1) (.ref a) (.ref b) (SeqAt.lex es fs xs.length ys.length (min xs.length ys.length) 0)
section
variable {X : Cx} {pins : List (Addr × Obj)} {σ : St} {H : Hp} {s : Shared}
theorem rel_at {xs : List V} {is : List Value} {j : Nat} (r : Vals xs is) (q : j < is.toArray.size) : ∃ x, xs[j]? = some x ∧ RelV x is.toArray[j] := by
  have l := r.length
  have q' : j < is.length := by simpa using q
  have hx : xs[j]? = some xs[j] := List.getElem?_eq_getElem (by omega)
  obtain ⟨u, e, ru⟩ := r.get hx
  refine ⟨_, hx, ?_⟩
  have g : is.toArray[j] = u := by
    rw [List.getElem?_eq_getElem q'] at e
    simpa using Option.some.inj e
  rw [g]
  exact ru
theorem LtR.at_ (I : Inv X pins σ H s) {d : Nat} {x y : V} {b : Bool} (h : LtR X.K H d x y b) : ∀ {A : Around} {u v : Value}, A.units + d < cLine → RelV x u → RelV y v → SeqAt.LtAt A s u v b := by
  induction h with
  | int d i j =>
    intro A u v hu ru rv
    obtain ⟨t, rfl⟩ := ru
    obtain ⟨t', rfl⟩ := rv
    exact SeqAt.LtAt.int_int i t j t'
  | @lists d a b xs ys es fs h1 h2 he hf ih =>
    intro A u v hu ru rv
    obtain rfl : u = Value.ref a := ru
    obtain rfl : v = Value.ref b := rv
    obtain ⟨is, r1, p1, z1⟩ := I.list h1
    obtain ⟨js, r2, p2, z2⟩ := I.list h2
    have l1 : xs.length = is.toArray.size := by have := r1.length; simpa using this
    have l2 : ys.length = js.toArray.size := by have := r2.length; simpa using this
    rw [l1, l2]
    refine SeqAt.LtAt.lists p1.isList p2.isList (by omega) (fun j q1 q2 => ?_) (fun j q1 q2 z => ?_)
    · obtain ⟨x, hx, rx⟩ := rel_at r1 q1
      obtain ⟨y, hy, ry⟩ := rel_at r2 q2
      exact ((he j _ _ hx hy).at_ I (by rw [units_in1]; omega) rx ry).2.2
    · obtain ⟨x, hx, rx⟩ := rel_at r1 q1
      obtain ⟨y, hy, ry⟩ := rel_at r2 q2
      exact ih j _ _ hx hy z (by rw [units_in1]; omega) rx ry
  | @tuples d a b xs ys es fs h1 h2 he hf ih =>
    intro A u v hu ru rv
    obtain rfl : u = Value.ref a := ru
    obtain rfl : v = Value.ref b := rv
    obtain ⟨is, r1, p1, z1⟩ := I.tuple h1
    obtain ⟨js, r2, p2, z2⟩ := I.tuple h2
    have l1 : xs.length = is.toArray.size := by have := r1.length; simpa using this
    have l2 : ys.length = js.toArray.size := by have := r2.length; simpa using this
    rw [l1, l2]
    refine SeqAt.LtAt.tuples (show s.heap.IsTuple a is.toArray from p1) (show s.heap.IsTuple b js.toArray from p2) (by omega) (fun j q1 q2 => ?_) (fun j q1 q2 z => ?_)
    · obtain ⟨x, hx, rx⟩ := rel_at r1 q1
      obtain ⟨y, hy, ry⟩ := rel_at r2 q2
      exact ((he j _ _ hx hy).at_ I (by rw [units_in1]; omega) rx ry).2.2
    · obtain ⟨x, hx, rx⟩ := rel_at r1 q1
      obtain ⟨y, hy, ry⟩ := rel_at r2 q2
      exact ih j _ _ hx hy z (by rw [units_in1]; omega) rx ry
/-- the sort's question of two lists -/
theorem LtR.key (I : Inv X pins σ H s) {d : Nat} {a b : Addr} {xs ys : List V} {es fs : Nat → Bool} (h1 : SqL X.K H a xs) (h2 : SqL X.K H b ys) (he : ∀ (j : Nat) x y, xs[j]? = some x → ys[j]? = some y → EqR X.K H d x y (es j)) (hf : ∀ (j : Nat) x y, xs[j]? = some x → ys[j]? = some y → es j = false → LtR X.K H d x y (fs j))
    {A : Around} (hu : A.units + (d + 1) < cLine) {prog : Program} {w : World} {E : Value → Shared → Prop} {Q : Bool → Shared → Prop} (q : Q (SeqAt.lex es fs xs.length ys.length (min xs.length ys.length) 0) s) :
    wpAny (model prog w) A (keyLt' oneType' (.ref a) (.ref b)) Q E s := by
  obtain ⟨is, r1, p1, z1⟩ := I.list h1
  obtain ⟨js, r2, p2, z2⟩ := I.list h2
  have l1 : xs.length = is.toArray.size := by have := r1.length; simpa using this
  have l2 : ys.length = js.toArray.size := by have := r2.length; simpa using this
  rw [l1, l2] at q
  refine SeqAt.key_lists p1.isList p2.isList (by omega) (fun j q1 q2 => ?_) (fun j q1 q2 z => ?_) q
  · obtain ⟨x, hx, rx⟩ := rel_at r1 q1
    obtain ⟨y, hy, ry⟩ := rel_at r2 q2
    exact ((he j _ _ hx hy).at_ I (by rw [units_in1]; omega) rx ry).2.2
  · obtain ⟨x, hx, rx⟩ := rel_at r1 q1
    obtain ⟨y, hy, ry⟩ := rel_at r2 q2
    exact (hf j _ _ hx hy z).at_ I (by rw [units_in1]; omega) rx ry
end
end L2
/-! ### min, max of a list of ints; all, any of a list of truths -/
namespace L2
open PySem PySem.Spec PyProof.Rows
/-- the least one, the greatest one of a list, as the walk finds it -/
def minL (ns : List Int) : Int := ns.getD (argBest (fun i j => decide (ns.getD i 0 < ns.getD j 0)) (ns.length - 1)) 0
section
variable {X : Cx}
theorem numAt_of {ys : Array (Int × Tok)} {ns : List Int} (h : ys.toList.map (·.1) = ns) (i : Nat) : numAt ys i = ns.getD i 0 := by
  subst h
  unfold numAt
  rw [List.getD, List.getElem?_map, Array.getElem?_toList]
theorem call_min1 (hc : X.calm = true) : CallR X (.builtin "min") (fun xs H Q => ∃ (p : Addr) (ns : List Int), xs = [.ref p] ∧ SqL X.K H p (ns.map V.int) ∧ 0 < ns.length ∧ Q (.int (minL ns)) H) := by
  intro pins s σ H xs us Q I r h
  obtain ⟨p, ns, rfl, hq, h0, q⟩ := h
  obtain ⟨u, rfl, rx⟩ := vals1 r
  cases rx
  obtain ⟨its, r', pl, hz⟩ := I.list hq
  have hi : IntsAre its ns := intsAre_of r'
  obtain ⟨ys, e⟩ := hi.allInts.items
  have n1 := hi.numsOf
  rw [show its = its.toArray.toList from rfl, e, nums_intItems] at n1
  have hsz : ys.size = ns.length := by rw [← n1]; simp
  have hl := pl.isList
  rw [e] at hl
  refine min_intList (I.ok.hd hc) hl (by omega) fun v h' tk hv hk => ?_
  obtain ⟨t, rfl⟩ := intItems_at hv
  refine ⟨.int (minL ns), H, I.kept hk, ⟨t, ?_⟩, q⟩
  unfold minL
  rw [numAt_of n1, hsz]
  simp only [numAt_of n1]
/-- x *= e, ints -/
def ipM : TIp := fun x y H Q => ∃ i j, x = .int i ∧ y = .int j ∧ CMul i j ∧ Q (.int (i * j)) H
theorem ip_mult : PIp X .Mult ipM := by
  intro pins s σ H x y v u Q I r1 r2 h
  obtain ⟨i, j, e1, e2, c, q⟩ := h
  subst e1; subst e2
  obtain ⟨t, rfl⟩ := r1
  obtain ⟨t', rfl⟩ := r2
  exact imul_int ⟨.int _, H, I.tok _, ⟨_, rfl⟩, q⟩ c.ok
end
end L2
/-! ### list(range(a, b)) -/
namespace L2
open PySem PySem.Spec PyProof.Rows
section
variable {X : Cx} {a b : Expr} {ta : TA} {p1 p2 p3 pos : Pos}
def rngL (i : Int) (n : Nat) : List V := (List.range n).map fun k : Nat => V.int (i + (k : Int))
theorem vals_rng {i : Int} : ∀ (n : Nat) (acc : List Value) (o : Nat), acc.length = n → (∀ k v, acc[k]? = some v → ∃ t, v = Value.int (i + (o + k : Nat) * 1) t) → Vals ((List.range' o n).map fun k : Nat => V.int (i + (k : Int))) acc
  | 0, acc, o, h, _ => by
    obtain rfl : acc = [] := List.length_eq_zero_iff.mp h
    exact .nil
  | n + 1, acc, o, h, hv => by
    cases acc with
    | nil => simp at h
    | cons v acc =>
      rw [List.range'_succ, List.map_cons]
      obtain ⟨t, rfl⟩ := hv 0 v rfl
      refine .cons ⟨t, by congr 1; simp⟩ (vals_rng n acc (o + 1) (by simpa using h) fun k v e => ?_)
      obtain ⟨t, e2⟩ := hv (k + 1) v (by simpa using e)
      exact ⟨t, by rw [e2]; congr 1; omega⟩
/-- list(range(a, b)) -/
def tListRng (ta : TA) : TE := fun σ H Q => ta σ H fun vs H1 => ∃ i j : Int, vs = [.int i, .int j] ∧ (-(2 ^ 62) ≤ i ∧ i < 2 ^ 62 ∧ -(2 ^ 62) ≤ j ∧ j < 2 ^ 62) ∧ (j - i).toNat ≤ 1000 ∧ ∀ l, H1 l = none → Q (.ref l) (upd H1 l (.lst (rngL i (j - i).toNat)))
theorem pe_listrng (hc : X.calm = true) (hg1 : Gl X "list") (hm1 : X.mg "list" = none) (hg2 : Gl X "range") (hm2 : X.mg "range" = none) (ha : PA X [a, b] ta)
    (he1 : starEach [.Call (.Name "range" p2) [a, b] [] p3] X.env = [(false, eval (.Call (.Name "range" p2) [a, b] [] p3) X.env)] := by rfl)
    (hs : starEach [a, b] X.env = [(false, eval a X.env), (false, eval b X.env)] := by rfl) (hs2 : starEach [b] X.env = [(false, eval b X.env)] := by rfl) :
    PE X (.Call (.Name "list" p1) [.Call (.Name "range" p2) [a, b] [] p3] [] pos) (tListRng ta) := by
  intro pins s σ H Q I h
  refine wpAny_Call_Name_kw (ld_blt I hg1 hm1 boot_list ?_)
  refine PyProof.Rows.callWith_type1 ?_ he1 (by rfl)
  rw [he1]
  show wpAny _ _ (spliced [(false, eval (.Call (.Name "range" p2) [a, b] [] p3) X.env)]) _ _ s
  refine Calls.spliced_cons ?_
  refine Call_ (ld_blt I hg2 hm2 boot_range (PyProof.Rows.callWith_type1 (thn (ha p3 pins s σ H _ I h) fun us s1 ⟨vs, H1, I1, r1, q1⟩ => ?_) (by rw [hs, hs2]) (by rw [hs2]; rfl)))
  obtain ⟨i, j, e, ⟨q1, q2, q3, q4⟩, hn, q⟩ := q1
  subst e
  cases r1 with
  | cons r rr =>
    cases rr with
    | cons r' rr =>
      cases rr
      obtain ⟨t, rfl⟩ := r
      obtain ⟨t', rfl⟩ := r'
      refine call_range_2 ?_
      refine Calls.spliced_nil ?_
      refine call_list_range (n := (j - i).toNat) (I1.ok.hd hc) (IsRange.new ..) (small_one q1 q2 q3 q4) (by rw [rangeSize_one]; split <;> omega) (by omega) fun h' tk acc' c' hk hS hacc => ?_
      have ne : ∀ b o, s1.heap.get? b = some o → h'.get? b = some o := fun b o z => hk b o (Heap.get?_push_of_some _ z)
      obtain ⟨z1, z2⟩ := hacc
      have vv : Vals (rngL i (j - i).toNat) acc'.toList := by
        unfold rngL
        rw [List.range_eq_range']
        exact vals_rng (j - i).toNat acc'.toList 0 (by simpa using z1) fun k v e => by
          obtain ⟨t, e2⟩ := z2 k v (by simpa using e)
          exact ⟨t, by rw [e2]; simp⟩
      have le : s1.heap.objs.size ≤ (s1.heap.push { cls := .type "range", data := .fields #[.int i t, .int j t', .int 1 s1.toks] }).objs.size := by rw [Heap.size_push]; exact Nat.le_succ _
      exact ⟨.ref _, _, I1.laid (t' := tk) ne le (show ObjOk X.prog X.w _ h' _ (.lst (rngL i (j - i).toNat)) from ⟨by unfold rngL; rw [List.length_map, List.length_range, sizeLine_eq]; omega, acc'.toList, c', vv, hS⟩), rfl, q _ (I1.hok.fresh le)⟩
end
end L2
/-! ### tuples of ints -/
namespace L2
open PySem PySem.Spec PyProof.Rows
/-- a tuple of ints -/
def tI (xs : List Int) : D := .t (xs.map .i)
theorem iss_ints {H : Hp} : ∀ {xs : List Int} {vs : List V}, Iss H (xs.map .i) vs → vs = xs.map V.int
  | [], vs, h => h
  | x :: xs, vs, h => by
    obtain ⟨u, us, rfl, h1, h2⟩ := h
    rw [of_i h1, iss_ints h2]
    rfl
theorem ints_iss {H : Hp} : ∀ (xs : List Int), Iss H (xs.map .i) (xs.map V.int)
  | [] => rfl
  | x :: xs => ⟨_, _, rfl, is_i, ints_iss xs⟩
theorem of_tI {H : Hp} {xs : List Int} {v : V} (h : Is H (tI xs) v) : ∃ a, v = .ref a ∧ H a = some (.tup (xs.map V.int)) := by
  obtain ⟨a, vs, rfl, ha, hi⟩ := of_t h
  rw [iss_ints hi] at ha
  exact ⟨a, rfl, ha⟩
theorem is_tI {H : Hp} {xs : List Int} {a : Addr} (h : H a = some (.tup (xs.map V.int))) : Is H (tI xs) (.ref a) := is_t h (ints_iss xs)
end L2
/-! ### sorted(xs) of a list of tuples of ints, fewer than 64: some order of them, by the kit's own tree of the sort -/
namespace L2
open PySem PySem.Spec PyProof.Rows PySem.W
section
variable {n : Nat}
/-- the places in some order -/
def Ord (n : Nat) (p : Array Nat) : Prop := p.Perm (List.range n).toArray
theorem Ord.size {p : Array Nat} (h : Ord n p) : p.size = n := by
  have := (Array.perm_iff_toList_perm.mp h).length_eq
  simpa using this
theorem Ord.lt {p : Array Nat} (h : Ord n p) {i : Nat} (hi : i ∈ p.toList) : i < n := by
  have := (Array.perm_iff_toList_perm.mp h).mem_iff.mp hi
  simpa using this
theorem Ord.bubble {p : Array Nat} (h : Ord n p) (i j : Nat) : Ord n (PyProof.Rows.bubble p i j) := (bubble_perm p i j).trans h
theorem Ord.kas {p : Array Nat} (h : Ord n p) (i j : Nat) : Ord n (kas_rev p i j) := (mirror_perm p i j _).trans h
theorem Ord.getD {p : Array Nat} (h : Ord n p) (hn : 0 < n) (i : Nat) : p.getD i 0 < n := by
  by_cases hi : i < p.size
  · have e : p.getD i 0 = p[i] := by simp [Array.getD, hi]
    rw [e]
    exact h.lt (by simp)
  · have e : p.getD i 0 = 0 := by simp [Array.getD, hi]
    rw [e]
    exact hn
/-- every way through the tree asks of places and ends in R -/
def Leaves (n : Nat) {α : Type} (R : α → Prop) : KasT α → Prop
  | .ret a => R a
  | .ask i j k => i < n ∧ j < n ∧ ∀ b, Leaves n R (k b)
theorem Leaves.bind {α β : Type} {R : α → Prop} {R' : β → Prop} {f : α → KasT β} (hf : ∀ a, R a → Leaves n R' (f a)) : ∀ {t : KasT α}, Leaves n R t → Leaves n R' (t.bind f)
  | .ret a, h => hf a h
  | .ask i j k, h => ⟨h.1, h.2.1, fun b => Leaves.bind hf (h.2.2 b)⟩
theorem Leaves.wp {α : Type} {R : α → Prop} {cmp : Nat → Nat → (Bool → Shared → Prop) → Shared → Prop} {Q : α → Shared → Prop} {s : Shared} (hc : ∀ i j, i < n → j < n → ∃ b, ∀ C : Bool → Shared → Prop, C b s → cmp i j C s) (hq : ∀ a, R a → Q a s) : ∀ {t : KasT α}, Leaves n R t → t.kasWp cmp Q s
  | .ret a, h => hq a h
  | .ask i j k, h => by
    obtain ⟨b, hb⟩ := hc i j h.1 h.2.1
    exact hb _ (Leaves.wp hc hq (h.2.2 b))
variable (hn : 0 < n)
include hn
theorem lv_asc {p : Array Nat} (h : Ord n p) : ∀ f m, Leaves n (fun _ => True) (kas_asc p f m)
  | 0, m => trivial
  | f + 1, m => ⟨h.getD hn _, h.getD hn _, fun b => by
    cases b with
    | true => exact trivial
    | false => exact lv_asc h f (m + 1)⟩
theorem lv_desc : ∀ (f : Nat) (p : Array Nat) (m q : Nat), Ord n p → Leaves n (fun r => Ord n r.1) (kas_desc f p m q)
  | 0, p, m, q, h => h
  | f + 1, p, m, q, h => ⟨h.getD hn _, h.getD hn _, fun b => by
    cases b with
    | true =>
      show Leaves n _ (if q > 0 then kas_desc f (kas_rev p (m - (q + 1)) m) (m + 1) 0 else kas_desc f p (m + 1) 0)
      by_cases hq : q > 0
      · rw [if_pos hq]; exact lv_desc f _ _ _ (h.kas _ _)
      · rw [if_neg hq]; exact lv_desc f _ _ _ h
    | false =>
      refine (show Leaves n _ (KasT.ask (p.getD (m - 1) 0) (p.getD m 0) fun d => if d = true then KasT.ret (p, m, q) else kas_desc f p (m + 1) (q + 1)) from ⟨h.getD hn _, h.getD hn _, fun b => ?_⟩)
      cases b with
      | true => exact h
      | false => exact lv_desc f _ _ _ h⟩
theorem lv_tail {p : Array Nat} (h : Ord n p) (m k : Nat) : Leaves n (fun r => Ord n r.2) (kas_tail3 m k p) := by
  unfold kas_tail3
  refine Leaves.bind (fun a _ => ?_) (lv_asc hn (h.kas 0 m) _ _)
  exact h.kas 0 m
theorem lv_part {p : Array Nat} (h : Ord n p) (m k : Nat) : Leaves n (fun r => Ord n r.2) (kas_descPart m k p) := by
  refine (lv_desc hn _ _ _ _ h).bind fun r hr => ?_
  by_cases hq : r.2.2 > 0
  · rw [if_pos hq]; exact lv_tail hn (hr.kas _ _) _ _
  · rw [if_neg hq]; exact lv_tail hn hr _ _
theorem lv_count {p : Array Nat} (h : Ord n p) (k : Nat) : Leaves n (fun r => Ord n r.2) (kas_count k p) := by
  refine (lv_asc hn h _ _).bind fun m _ => ?_
  by_cases h1 : (m == k) = true
  · rw [if_pos h1]; exact h
  · rw [if_neg h1]
    by_cases h2 : m > 1
    · rw [if_pos h2]
      refine ⟨h.getD hn _, h.getD hn _, fun b => ?_⟩
      cases b with
      | true => exact h
      | false => exact lv_part hn (h.kas _ _) _ _
    · rw [if_neg h2]; exact lv_part hn h _ _
theorem lv_place {p : Array Nat} (h : Ord n p) (k : Nat) : ∀ f l r, Leaves n (fun _ => True) (kas_place p k f l r)
  | 0, l, r => trivial
  | f + 1, l, r => by
    unfold kas_place
    by_cases h1 : l ≥ r
    · rw [if_pos h1]; exact trivial
    · rw [if_neg h1]
      refine ⟨h.getD hn _, h.getD hn _, fun b => ?_⟩
      cases b with
      | true => exact lv_place h k f _ _
      | false => exact lv_place h k f _ _
theorem lv_bin : ∀ (f : Nat) (p : Array Nat) (k : Nat), Ord n p → Leaves n (Ord n) (kas_bin f p k)
  | 0, p, k, h => h
  | f + 1, p, k, h => (lv_place hn h k _ _ _).bind fun l _ => lv_bin f _ _ (h.bubble _ _)
theorem lv_sort : Leaves n (Ord n) (kas_sort n) := by
  refine (lv_count hn (show Ord n (List.range n).toArray from Array.Perm.refl _) n).bind fun r hr => ?_
  by_cases h : r.1 < n
  · rw [if_pos h]; exact lv_bin hn _ _ _ hr
  · rw [if_neg h]; exact hr
end
section
variable {prog : Program} {w : World} {A : Around} {E : Value → Shared → Prop} {s : Shared}
abbrev sortIn (h : Heap) (a : Addr) (vs : List Value) : Heap := ((h.update a (Obj.mapSeq fun _ => (#[] : Array Value))).push (seqObj "tuple" vs.toArray 0)).push (seqObj "list" #[] 0)
theorem sort_kas {kd : SortKind} {a : Addr} {vs : List Value} {n : Nat} {P : PySem.Fin → Shared → Prop} (ho : s.heap.get? a = some (seqObj "list" vs.toArray n)) (h2 : 2 ≤ vs.length) (h64 : vs.length < 64)
    (hkd : ∀ (R : SortKind → Shared → Prop), R kd { s with heap := sortIn s.heap a vs } → wpAny (model prog w) A (keyKind' vs.toArray) R E { s with heap := sortIn s.heap a vs })
    (hc : ∀ i j, i < vs.length → j < vs.length → ∃ b, ∀ C : Bool → Shared → Prop, C b { s with heap := sortIn s.heap a vs } → wpAny (model prog w) A (keyLt' kd (vs.getD i .none) (vs.getD j .none)) C (fun _ _ => False) { s with heap := sortIn s.heap a vs })
    (h : ∀ p, Ord vs.length p → P (.done (.ret .none)) { s with heap := sortedHeap s.heap a vs (p.map fun i => vs.getD i .none) }) : wpAny (model prog w) A (Builtin.«list.sort» ⟨[.ref a], []⟩) P E s := by
  rw [list_sort_plain]
  have ha : a < s.heap.objs.size := Heap.lt_size ho
  refine wpAny_bind (listItems_at ho rfl ?_)
  refine wpAny_bind (listUpdate_at ho rfl ?_ (by rw [List.size_toArray, sizeLine_eq]; omega) (Nat.zero_le _))
  obtain ⟨e1, ho1⟩ : ∃ e1, (s.heap.update a (Obj.mapSeq fun _ => (#[] : Array Value))).get? a = some (seqObj "list" #[] e1) := ⟨_, get?_update_seq ho (fun _ => #[])⟩
  refine wpAny_bind (seqEpoch_at ho1 rfl ?_)
  refine wpAny_bind (wpAny_newTuple ?_ (by show vs.length ≤ _; rw [sizeLine_eq]; omega))
  refine wpAny_bind (wpAny_newList ?_ (Nat.zero_le _))
  refine wpAny_holding ?_
  have ho6 : (sortIn s.heap a vs).get? a = some (seqObj "list" #[] e1) := by
    rw [Heap.get?_push_ne _ _ _ (by rw [size_push', Heap.size_update]; exact Nat.ne_of_lt (Nat.lt_succ_of_lt ha)), Heap.get?_push_ne _ _ _ (by rw [Heap.size_update]; exact Nat.ne_of_lt ha)]
    exact ho1
  show wpAny (model prog w) A _ P E { s with heap := sortIn s.heap a vs }
  dsimp only
  have hn2 : ¬ vs.toArray.size < 2 := by rw [List.size_toArray]; omega
  rw [if_neg hn2, if_neg hn2]
  refine wpAny_bind (hkd _ ?_)
  have est : kas_st kd (pairsOf vs) (List.toArray (List.range vs.length)) = SortSt.mk' kd (vs.toArray.zip vs.toArray) #[] 7 none := by
    have e := kas_range (pairsOf vs)
    rw [pairsOf_size] at e
    show SortSt.mk' kd ((List.toArray (List.range vs.length)).map (kas_item (pairsOf vs))) #[] 7 none = SortSt.mk' kd (pairsOf vs) #[] 7 none
    rw [e]
  have ask : (kas_sort vs.length).kasWp (kas_cmp prog w A kd (pairsOf vs)) (fun p s' => s' = { s with heap := sortIn s.heap a vs } ∧ Ord vs.length p) { s with heap := sortIn s.heap a vs } := by
    refine Leaves.wp (fun i j hi hj => ?_) (fun p hp => ⟨rfl, hp⟩) (lv_sort (by omega))
    obtain ⟨b, hb⟩ := hc i j hi hj
    refine ⟨b, fun C hC => ?_⟩
    rw [← kas_ask_eq]
    exact hb C hC
  have run := kas_runs (E := E) (Q := fun _ st' s' => ∃ p, s' = { s with heap := sortIn s.heap a vs } ∧ Ord vs.length p ∧ arrOf st' = p.map (kas_item (pairsOf vs)) ∧ failedOf st' = none) h2 h64 (fun p' st' s' _ a2 a3 a4 => ⟨p', a4.1, a4.2, a2, a3⟩) ask
  rw [est] at run
  refine wpAny_bind (wpAny_mono run ?_ fun _ _ e => e)
  rintro ⟨⟨⟩, st'⟩ s' ⟨p, rfl, hp, har, hf⟩
  dsimp only at har hf ⊢
  have eo : (arrOf st').map (·.2) = p.map fun i => vs.getD i .none := by
    rw [har, Array.map_map]
    refine Array.map_congr_left fun i _ => ?_
    show (kas_item (pairsOf vs) i).2 = _
    rw [kas_item_eq]
  rw [eo]
  refine wpAny_bind (seqEpoch_at ho6 rfl ?_)
  refine wpAny_bind (listUpdate_at ho6 rfl ?_ (Nat.zero_le _) (by rw [Array.size_map, sizeLine_eq, hp.size]; omega))
  rw [hf]
  simp only [bne_self_eq_false, Bool.false_eq_true, if_false]
  exact wpAny_pure (h p hp)
abbrev sortedIn (h : Heap) (vs : List Value) : Heap := sortIn (((h.push (seqObj "list" #[] 0)).update h.objs.size (Obj.mapSeq (· ++ vs.toArray))).push (seqObj "list" vs.toArray 0)) (h.objs.size + 1) vs
theorem sortedIn_old {h : Heap} {vs : List Value} {b : Addr} {o : Obj} (hb : h.get? b = some o) : (sortedIn h vs).get? b = some o := by
  have hlt : b < h.objs.size := Heap.lt_size hb
  have sz : (((h.push (seqObj "list" #[] 0)).update h.objs.size (Obj.mapSeq (· ++ vs.toArray))).push (seqObj "list" vs.toArray 0)).objs.size = h.objs.size + 2 := by rw [size_push', Heap.size_update, size_push']
  have n0 : b ≠ h.objs.size := Nat.ne_of_lt hlt
  have n1 : b ≠ h.objs.size + 1 := Nat.ne_of_lt (Nat.lt_succ_of_lt hlt)
  have n2 : b ≠ h.objs.size + 2 := Nat.ne_of_lt (Nat.lt_succ_of_lt (Nat.lt_succ_of_lt hlt))
  have n3 : b ≠ h.objs.size + 2 + 1 := Nat.ne_of_lt (Nat.lt_succ_of_lt (Nat.lt_succ_of_lt (Nat.lt_succ_of_lt hlt)))
  rw [Heap.get?_push_ne _ _ _ (by rw [size_push', Heap.size_update, sz]; exact n3), Heap.get?_push_ne _ _ _ (by rw [Heap.size_update, sz]; exact n2), Heap.get?_update_ne _ _ _ _ n1,
    Heap.get?_push_ne _ _ _ (by rw [Heap.size_update, size_push']; exact n1), Heap.get?_update_ne _ _ _ _ n0, Heap.get?_push_ne _ _ _ n0]
  exact hb
theorem sorted_kas {kd : SortKind} {l : Addr} {vs : List Value} {Q : Value → Shared → Prop} (hl : s.heap.IsList l vs.toArray) (h2 : 2 ≤ vs.length) (h64 : vs.length < 64)
    (hkd : ∀ (R : SortKind → Shared → Prop) (E : Value → Shared → Prop), R kd { s with heap := sortedIn s.heap vs } → wpAny (model prog w) A.in1.in1 (keyKind' vs.toArray) R E { s with heap := sortedIn s.heap vs })
    (hc : ∀ i j, i < vs.length → j < vs.length → ∃ b, ∀ C : Bool → Shared → Prop, C b { s with heap := sortedIn s.heap vs } → wpAny (model prog w) A.in1.in1 (keyLt' kd (vs.getD i .none) (vs.getD j .none)) C (fun _ _ => False) { s with heap := sortedIn s.heap vs })
    (h : ∀ p, Ord vs.length p → Q (.ref (s.heap.objs.size + 1)) { s with heap := sortedAll s.heap vs (p.map fun i => vs.getD i .none) }) : wpAny (model prog w) A (call (.builtin "sorted") [.ref l]) Q E s := by
  refine Calls.call_function_entry kind_sorted plain_sorted entry_sorted (args_sorted1 _) ?_
  unfold Builtin.«sorted»
  refine wpAny_bind (m := checkCount "sorted" 1 1 _) (wpAny_pure ?_)
  refine wpAny_bind (collect_list hl ?_ (by rw [sizeLine_eq]; omega))
  refine wpAny_bind (wpAny_newList ?_ (by rw [sizeLine_eq]; omega))
  have hsz : ((s.heap.push (seqObj "list" #[] 0)).update s.heap.objs.size (Obj.mapSeq (· ++ vs.toArray))).objs.size = s.heap.objs.size + 1 := by
    rw [Heap.size_update, size_push']
  have hoL : (((s.heap.push (seqObj "list" #[] 0)).update s.heap.objs.size (Obj.mapSeq (· ++ vs.toArray))).push (seqObj "list" vs.toArray 0)).get? (s.heap.objs.size + 1) = some (seqObj "list" vs.toArray 0) := by
    rw [← hsz]; exact Heap.get?_push_size _ rfl
  show wpAny _ _ _ _ _ { s with heap := ((s.heap.push (seqObj "list" #[] 0)).update s.heap.objs.size (Obj.mapSeq (· ++ vs.toArray))).push (seqObj "list" vs.toArray 0) }
  rw [hsz]
  refine wpAny_bind (wpAny_holding (wpAny_call_entry slot_list_sort ⟨_, hoL, rfl⟩ entry_list_sort (sort_kas (s := { s with heap := ((s.heap.push (seqObj "list" #[] 0)).update s.heap.objs.size (Obj.mapSeq (· ++ vs.toArray))).push (seqObj "list" vs.toArray 0) }) hoL h2 h64 (fun R => hkd R _) hc fun p hp => ⟨_, rfl, ?_⟩) (args_list_sort _)))
  exact wpAny_pure ⟨_, rfl, h p hp⟩
end
/-! fewer than two items -/
section
variable {prog : Program} {w : World} {A : Around} {E : Value → Shared → Prop} {s : Shared}
theorem sort_few {a : Addr} {vs : List Value} {n : Nat} {P : PySem.Fin → Shared → Prop} (ho : s.heap.get? a = some (seqObj "list" vs.toArray n)) (h2 : vs.length < 2)
    (h : P (.done (.ret .none)) { s with heap := sortedHeap s.heap a vs vs.toArray }) : wpAny (model prog w) A (Builtin.«list.sort» ⟨[.ref a], []⟩) P E s := by
  rw [list_sort_plain]
  have ha : a < s.heap.objs.size := Heap.lt_size ho
  refine wpAny_bind (listItems_at ho rfl ?_)
  refine wpAny_bind (listUpdate_at ho rfl ?_ (by rw [List.size_toArray, sizeLine_eq]; omega) (Nat.zero_le _))
  obtain ⟨e1, ho1⟩ : ∃ e1, (s.heap.update a (Obj.mapSeq fun _ => (#[] : Array Value))).get? a = some (seqObj "list" #[] e1) := ⟨_, get?_update_seq ho (fun _ => #[])⟩
  refine wpAny_bind (seqEpoch_at ho1 rfl ?_)
  refine wpAny_bind (wpAny_newTuple ?_ (by show vs.length ≤ _; rw [sizeLine_eq]; omega))
  refine wpAny_bind (wpAny_newList ?_ (Nat.zero_le _))
  refine wpAny_holding ?_
  have ho6 : (sortIn s.heap a vs).get? a = some (seqObj "list" #[] e1) := by
    rw [Heap.get?_push_ne _ _ _ (by rw [size_push', Heap.size_update]; exact Nat.ne_of_lt (Nat.lt_succ_of_lt ha)), Heap.get?_push_ne _ _ _ (by rw [Heap.size_update]; exact Nat.ne_of_lt ha)]
    exact ho1
  show wpAny (model prog w) A _ P E { s with heap := sortIn s.heap a vs }
  dsimp only
  have hn2 : vs.toArray.size < 2 := by rw [List.size_toArray]; omega
  rw [if_pos hn2, if_pos hn2]
  refine wpAny_bind (wpAny_pure ?_)
  rw [StateT.run_pure]
  refine wpAny_bind (wpAny_pure ?_)
  dsimp only
  have eo : (vs.toArray.zip vs.toArray).map (·.2) = vs.toArray := by
    refine Array.ext (by simp) fun i h1 h2 => ?_
    simp
  refine wpAny_bind (seqEpoch_at ho6 rfl ?_)
  rw [eo]
  refine wpAny_bind (listUpdate_at ho6 rfl ?_ (Nat.zero_le _) (by rw [List.size_toArray, sizeLine_eq]; omega))
  simp only [bne_self_eq_false, Bool.false_eq_true, if_false]
  exact wpAny_pure h
theorem sorted_few {l : Addr} {vs : List Value} {Q : Value → Shared → Prop} (hl : s.heap.IsList l vs.toArray) (h2 : vs.length < 2)
    (h : Q (.ref (s.heap.objs.size + 1)) { s with heap := sortedAll s.heap vs vs.toArray }) : wpAny (model prog w) A (call (.builtin "sorted") [.ref l]) Q E s := by
  refine Calls.call_function_entry kind_sorted plain_sorted entry_sorted (args_sorted1 _) ?_
  unfold Builtin.«sorted»
  refine wpAny_bind (m := checkCount "sorted" 1 1 _) (wpAny_pure ?_)
  refine wpAny_bind (collect_list hl ?_ (by rw [sizeLine_eq]; omega))
  refine wpAny_bind (wpAny_newList ?_ (by rw [sizeLine_eq]; omega))
  have hsz : ((s.heap.push (seqObj "list" #[] 0)).update s.heap.objs.size (Obj.mapSeq (· ++ vs.toArray))).objs.size = s.heap.objs.size + 1 := by
    rw [Heap.size_update, size_push']
  have hoL : (((s.heap.push (seqObj "list" #[] 0)).update s.heap.objs.size (Obj.mapSeq (· ++ vs.toArray))).push (seqObj "list" vs.toArray 0)).get? (s.heap.objs.size + 1) = some (seqObj "list" vs.toArray 0) := by
    rw [← hsz]; exact Heap.get?_push_size _ rfl
  show wpAny _ _ _ _ _ { s with heap := ((s.heap.push (seqObj "list" #[] 0)).update s.heap.objs.size (Obj.mapSeq (· ++ vs.toArray))).push (seqObj "list" vs.toArray 0) }
  rw [hsz]
  refine wpAny_bind (wpAny_holding (wpAny_call_entry slot_list_sort ⟨_, hoL, rfl⟩ entry_list_sort (sort_few (s := { s with heap := ((s.heap.push (seqObj "list" #[] 0)).update s.heap.objs.size (Obj.mapSeq (· ++ vs.toArray))).push (seqObj "list" vs.toArray 0) }) hoL h2 ⟨_, rfl, ?_⟩) (args_list_sort _)))
  exact wpAny_pure ⟨_, rfl, h⟩
end
section
variable {X : Cx}
theorem vals_getD {rs : List V} {its : List Value} (r : Vals rs its) : ∀ (l : List Nat), (∀ i ∈ l, i < rs.length) → Vals (l.map fun i => rs.getD i .non) (l.map fun i => its.getD i .none)
  | [], _ => .nil
  | i :: l, h => by
    have hi : i < rs.length := h i (by simp)
    have e : rs[i]? = some rs[i] := List.getElem?_eq_getElem hi
    obtain ⟨u, hu, ru⟩ := r.get e
    rw [List.map_cons, List.map_cons]
    refine .cons ?_ (vals_getD r l fun j hj => h j (by simp [hj]))
    rw [List.getD, List.getD, e, hu]
    exact ru
end
/-! the question of two tuples of ints -/
def lexI (fin : Bool) : List Int → List Int → Bool
  | x :: xs, y :: ys => if x = y then lexI fin xs ys else decide (x < y)
  | _, _ => fin
def ltI (xs ys : List Int) : Bool := lexI (decide (xs.length < ys.length)) xs ys
section
variable {prog : Program} {w : World} {A : Around} {E : Value → Shared → Prop} {s : Shared}
theorem lex_ints {fin : Bool} {Q : Bool → Shared → Prop} : ∀ {xs ys : List Int} {is js : List Value} (i : Nat), Vals (xs.map V.int) is → Vals (ys.map V.int) js → Q (lexI fin xs ys) s → KatLex prog w A true fin Q (is.zip js) i s
  | [], ys, is, js, i, h1, h2, q => by
    cases h1
    rw [List.zip_nil_left]
    exact kat_nil (by cases ys <;> exact q)
  | x :: xs, [], is, js, i, h1, h2, q => by
    cases h2
    rw [List.zip_nil_right]
    exact kat_nil q
  | x :: xs, y :: ys, is, js, i, h1, h2, q => by
    cases h1 with
    | cons r1 h1 =>
    cases h2 with
    | cons r2 h2 =>
    obtain ⟨t, rfl⟩ := r1
    obtain ⟨t', rfl⟩ := r2
    rw [List.zip_cons_cons]
    refine kat_cons ?_
    refine wpAny_eqBool_int ?_
    unfold lexI at q
    by_cases e : x = y
    · rw [if_pos e] at q
      rw [show (x == y) = true by simp [e]]
      exact kat_yes (lex_ints (i + 1) h1 h2 q)
    · rw [if_neg e] at q
      rw [show (x == y) = false by simp [e]]
      refine kat_no ?_
      cases hb : (true && i == 0) with
      | true => exact oneLt_int q
      | false => exact kat_one _ _ (SeqAt.LtAt.int_int x t y t' prog w _ _ q)
end
theorem map_getD (xss : List (List Int)) : (List.range xss.length).map (fun i => xss.getD i []) = xss := by
  refine List.ext_getElem (by simp) fun i h1 h2 => ?_
  simp [List.getD, h2]
theorem iss_getD {H : Hp} {xss : List (List Int)} {rs : List V} (h : Iss H (xss.map tI) rs) : ∀ (l : List Nat), (∀ i ∈ l, i < xss.length) → Iss H ((l.map fun i => xss.getD i []).map tI) (l.map fun i => rs.getD i .non)
  | [], _ => rfl
  | i :: l, hl => by
    have hi : i < xss.length := hl i (by simp)
    have hr : i < rs.length := by rw [h.length, List.length_map]; exact hi
    refine ⟨_, _, rfl, ?_, iss_getD h l fun j hj => hl j (by simp [hj])⟩
    obtain ⟨d, hd, h1⟩ := h.of_get (List.getElem?_eq_getElem hr)
    rw [List.getElem?_map, List.getElem?_eq_getElem hi] at hd
    cases hd
    show Is H (tI (xss.getD i [])) (rs.getD i .non)
    rw [List.getD_eq_getElem?_getD, List.getD_eq_getElem?_getD, List.getElem?_eq_getElem hi, List.getElem?_eq_getElem hr]
    exact h1
section
variable {X : Cx} {pins : List (Addr × Obj)} {σ : St} {H : Hp} {s : Shared}
theorem kat_tups (I : Inv X pins σ H s) : ∀ {xss : List (List Int)} {rs : List V} {its : List Value}, Iss H (xss.map tI) rs → Vals rs its → (∀ xs ∈ xss, xs ≠ []) → ∃ fs : List Value, KatTups s.heap its fs ∧ fs.length = its.length ∧ ∀ f ∈ fs, ∃ z t, f = Value.int z t
  | [], rs, its, h, r, _ => by
    obtain rfl : rs = [] := h
    cases r
    exact ⟨[], KatTups.nil, rfl, fun _ h => nomatch h⟩
  | xs :: xss, rs, its, h, r, hne => by
    obtain ⟨u, us, rfl, h1, h2⟩ := h
    cases r with
    | cons r1 r2 =>
    rename_i v its
    obtain ⟨fs, k1, k2, k3⟩ := kat_tups I h2 r2 fun ys hy => hne ys (by simp [hy])
    obtain ⟨a, rfl, ha⟩ := of_tI h1
    obtain rfl : v = Value.ref a := r1
    obtain ⟨is, q1, q2, q3⟩ := I.tuple (SqT.of (K := X.K) ha)
    obtain ⟨o, ho, hc, n, hd⟩ := (show s.heap.IsTuple a is.toArray from q2)
    match xs, hne xs (by simp) with
    | x :: xs', _ =>
    cases q1 with
    | cons q0 q1 =>
    obtain ⟨t, rfl⟩ := q0
    refine ⟨.int x t :: fs, KatTups.cons ho hc hd (by simp) k1, by simp [k2], fun f hf => ?_⟩
    rcases List.mem_cons.mp hf with rfl | hf
    · exact ⟨_, _, rfl⟩
    · exact k3 f hf
theorem key_ints (I : Inv X pins σ H s) {a b : Addr} {xs ys : List Int} (h1 : SqT X.K H a (xs.map V.int)) (h2 : SqT X.K H b (ys.map V.int)) {A : Around} {prog : Program} {w : World} {E : Value → Shared → Prop} {Q : Bool → Shared → Prop} (q : Q (ltI xs ys) s) :
    wpAny (model prog w) A (keyLt' (tuples' true) (.ref a) (.ref b)) Q E s := by
  obtain ⟨is, r1, p1, z1⟩ := I.tuple h1
  obtain ⟨js, r2, p2, z2⟩ := I.tuple h2
  obtain ⟨o1, ho1, hc1, n1, hd1⟩ := (show s.heap.IsTuple a is.toArray from p1)
  obtain ⟨o2, ho2, hc2, n2, hd2⟩ := (show s.heap.IsTuple b js.toArray from p2)
  refine kat_lt ho1 hd1 ho2 hd2 ?_
  have l1 : is.toArray.size = xs.length := by have := r1.length; simp at this ⊢; omega
  have l2 : js.toArray.size = ys.length := by have := r2.length; simp at this ⊢; omega
  rw [l1, l2]
  exact lex_ints 0 r1 r2 q
end
end L2
/-! ### a dict of the module's own, ints by ints, read -/
namespace L2
open PySem PySem.Spec PyProof.Rows
def intIs (v : Value) (k : Int) : Bool := match v with
  | .int i _ => decide (i = k)
  | _ => false
def entOk : List DictEntry → List (Int × Int) → Bool
  | [], [] => true
  | e :: es, p :: kvs => intIs e.key p.1 && decide (e.hash = hashInt p.1) && intIs e.val p.2 && entOk es kvs
  | _, _ => false
def objOk (o : Obj) (kvs : List (Int × Int)) : Bool := match o.cls, o.dict, o.data with
  | .type c, none, .dict es _ => c == "dict" && o.slots.isEmpty && entOk es.toList kvs
  | _, _, _ => false
/-- the dict at a, of the module's top, holds these -/
def dtabIn (K : PySem.W.Frag) (a : Addr) (kvs : List (Int × Int)) : Bool := match K.lookup a with
  | some o => objOk o kvs
  | none => false
theorem intIs_of {v : Value} {k : Int} (h : intIs v k = true) : ∃ t, v = .int k t := by
  unfold intIs at h
  split at h
  · rename_i i t
    exact ⟨t, by rw [of_decide_eq_true h]⟩
  · cases h
theorem entOk_cons {e : DictEntry} {es : List DictEntry} {p : Int × Int} {kvs : List (Int × Int)} (h : entOk (e :: es) (p :: kvs) = true) : (∃ t, e.key = .int p.1 t) ∧ e.hash = hashInt p.1 ∧ (∃ t, e.val = .int p.2 t) ∧ entOk es kvs = true := by
  unfold entOk at h
  rw [Bool.and_eq_true, Bool.and_eq_true, Bool.and_eq_true] at h
  exact ⟨intIs_of h.1.1.1, of_decide_eq_true h.1.1.2, intIs_of h.1.2, h.2⟩
theorem entOk_keys : ∀ {es : List DictEntry} {kvs : List (Int × Int)}, entOk es kvs = true → ∀ e ∈ es, ∃ k, Value.isInt k e.key = true ∧ e.hash = hashInt k
  | [], _, _, e, he => nomatch he
  | e :: es, [], h, _, _ => by unfold entOk at h; cases h
  | e :: es, p :: kvs, h, e', he => by
    obtain ⟨⟨t, h1⟩, h2, _, h4⟩ := entOk_cons h
    rcases List.mem_cons.mp he with rfl | he
    · exact ⟨p.1, by rw [h1]; simp [Value.isInt], h2⟩
    · exact entOk_keys h4 e' he
theorem entOk_find {k v : Int} : ∀ {es : List DictEntry} {kvs : List (Int × Int)}, entOk es kvs = true → kvs.lookup k = some v → ∃ t, (es.find? fun e => Value.isInt k e.key).map (·.val) = some (.int v t)
  | _, [], _, hv => nomatch hv
  | [], p :: kvs, h, _ => by unfold entOk at h; cases h
  | e :: es, p :: kvs, h, hv => by
    obtain ⟨⟨t, h1⟩, h2, ⟨u, h3⟩, h4⟩ := entOk_cons h
    rw [List.lookup_cons] at hv
    rw [List.find?_cons]
    by_cases q : k = p.1
    · have b : (k == p.1) = true := by simp [q]
      rw [b] at hv
      have hv' : p.2 = v := Option.some.inj hv
      have i : Value.isInt k e.key = true := by rw [h1, q]; simp [Value.isInt]
      rw [i]
      exact ⟨u, by rw [← hv', ← h3]; rfl⟩
    · have b : (k == p.1) = false := by simp [q]
      rw [b] at hv
      have i : Value.isInt k e.key = false := by rw [h1]; simp [Value.isInt]; exact fun z => q z.symm
      rw [i]
      exact entOk_find h4 hv
def tDGetM (K : PySem.W.Frag) (td ty : TE) : TE := fun σ H Q => td σ H fun x H1 => ty σ H1 fun y H2 => ∃ a kvs k v, x = .ref a ∧ dtabIn K a kvs = true ∧ y = .int k ∧ kvs.lookup k = some v ∧ Q (.int v) H2
theorem pe_dgetM {X : Cx} {o i : Expr} {pos : Pos} {td ty : TE} (ho : PE X o td) (hi : PE X i ty) (hs : NoSl i) : PE X (.Subscript o i pos) (tDGetM X.K td ty) := by
  intro pins s σ H Q I h
  refine subD_of PySem.F.slot_dict_getitem.lookup hs (thn (ho pins s σ H _ I h) fun u s1 ⟨x, H1, I1, rx, q1⟩ => thn (hi pins s1 σ H1 _ I1 q1) fun iv s2 ⟨y, H2, I2, ry, a, kvs, k, v, ex, hd, ey, hv, q2⟩ => ?_)
  subst ex ey
  obtain rfl : u = Value.ref a := rx
  obtain ⟨t, rfl⟩ := ry
  unfold dtabIn at hd
  split at hd
  · rename_i ob hob
    have hg := I2.kIn a ob hob
    unfold objOk at hd
    split at hd
    · rename_i c es ep hc hdi hda
      rw [Bool.and_eq_true, Bool.and_eq_true] at hd
      obtain ⟨⟨d1, d2⟩, d3⟩ := hd
      have hc' : ob.cls = .type "dict" := by rw [hc, eq_of_beq d1]
      obtain ⟨t', ht⟩ := entOk_find d3 hv
      have mp : s2.heap.MapOf (intKind X.prog X.w) a (findBy Value.isInt es) := ⟨ob, es, ep, hg, ⟨hc', hdi, Array.isEmpty_iff.mp d2⟩, hda, fun e he => entOk_keys d3 e (by simpa using he), fun _ => rfl⟩
      refine ⟨⟨ob, hg, hc'⟩, wpAny_getItem_of (knd := intKind X.prog X.w) (k := k) (by simp [intKind, Value.isInt]) mp (v := .int v t') ?_ ⟨.int v, H2, I2.tok _, ⟨_, rfl⟩, q2⟩⟩
      show findBy Value.isInt es k = _
      unfold findBy
      obtain ⟨l⟩ := es
      simpa using ht
    · cases hd
  · cases hd
end L2
/-! ### x in xs, xs.index(x), by what == tells of each item -/
namespace L2
open PySem PySem.Spec PyProof.Rows
/-- each item is an object, and == tells es of it and x -/
def Told1 (K : PySem.W.Frag) (H : Hp) (n : Nat) (xs : List V) (x : V) (es : Nat → Bool) : Prop := n ≤ 8 ∧ (∀ (j : Nat) z, xs[j]? = some z → (∃ a, z = .ref a) ∧ EqR K H n z x (es j)) ∧ ∀ (i j : Nat) z, xs[i]? = some z → xs[j]? = some z → es i = es j
section
variable {X : Cx} {pins : List (Addr × Obj)} {σ : St} {H : Hp} {s : Shared}
open Classical in
noncomputable def eTold (its : List Value) (es : Nat → Bool) (u : Value) : Bool := decide (∃ j : Nat, its[j]? = some u ∧ es j = true)
end
section
variable {X : Cx}
end
end L2
/-! ### sorted(xs) of a list of lists, fewer than 64: some order of them; points by < -/
namespace L2
open PySem PySem.Spec PyProof.Rows PySem.W
/-- what the sort is told of two lists -/
def Ask (K : PySem.W.Frag) (H : Hp) (x y : V) (b : Bool) : Prop := ∃ (a1 a2 : Addr) (xs ys : List V) (d : Nat) (es fs : Nat → Bool), x = .ref a1 ∧ y = .ref a2 ∧ SqL K H a1 xs ∧ SqL K H a2 ys ∧ d ≤ 4 ∧
  (∀ (j : Nat) x y, xs[j]? = some x → ys[j]? = some y → EqR K H d x y (es j)) ∧ (∀ (j : Nat) x y, xs[j]? = some x → ys[j]? = some y → es j = false → LtR K H d x y (fs j)) ∧ b = SeqAt.lex es fs xs.length ys.length (min xs.length ys.length) 0
/-- sorted, of fewer than 64 lists: some order of them -/
def rSortedP (K : PySem.W.Frag) : List V → Hp → VK → Prop := fun vs H Q => ∃ (l : Addr) (rs : List V), vs = [.ref l] ∧ SqL K H l rs ∧ rs.length < 64 ∧ (∀ r ∈ rs, ∃ a ys, r = .ref a ∧ SqL K H a ys) ∧
  (∀ x ∈ rs, ∀ y ∈ rs, ∃ b, Ask K H x y b) ∧ ∀ (p : List Nat) q, p.Perm (List.range rs.length) → H q = none → Q (.ref q) (upd H q (.lst (p.map fun i => rs.getD i .non)))
section
variable {X : Cx}
theorem call_sortedP {k : Nat} (hr : Room k X.A) : CallR X (.builtin "sorted") (rSortedP X.K) := by
  intro pins s σ H xs us Q I r h
  obtain ⟨l, rs, rfl, hq, h64, hty, hask, q⟩ := h
  obtain ⟨u, rfl, rx⟩ := vals1 r
  cases rx
  obtain ⟨its, r', pl, hz⟩ := I.list hq
  have ln := r'.length
  have hu := hr.un
  by_cases h2 : rs.length < 2
  · refine sorted_few (vs := its) pl.isList (by omega) ?_
    obtain ⟨e, he⟩ := sortedAll_at s.heap its its.toArray
    have fr := I.hok.fresh (a := s.heap.objs.size + 1) (Nat.le_succ _)
    have er : (List.range rs.length).map (fun i => rs.getD i .non) = rs := by
      refine List.ext_getElem (by simp) fun i h1 h2 => ?_
      simp [List.getD, h2]
    have := q (List.range rs.length) (s.heap.objs.size + 1) (List.Perm.refl _) fr
    rw [er] at this
    exact ⟨.ref (s.heap.objs.size + 1), _, I.laid (t' := s.toks) (fun _ _ => sortedAll_old) (Nat.le_succ _) (show ObjOk X.prog X.w _ _ _ (.lst rs) from ⟨hz, its, e, r', he⟩), rfl, this⟩
  · have I2 : Inv X pins σ H { s with heap := sortedIn s.heap its } := I.kept (t' := s.toks) fun b o e => sortedIn_old e
    have g : ∀ i, i < its.length → ∃ x ∈ rs, RelV x (its.getD i .none) := fun i h => by
      have hr : i < rs.length := by omega
      obtain ⟨u, hu1, ru⟩ := r'.get (List.getElem?_eq_getElem hr)
      exact ⟨rs[i], List.getElem_mem hr, by rw [List.getD_eq_getElem?_getD, hu1]; exact ru⟩
    refine sorted_kas (kd := oneType') (vs := its) pl.isList (by omega) (by omega) (fun R E hR => kas_kind (T := .type "list") (by omega) (fun v hv => ?_) rfl rfl hR) (fun i j hi' hj' => ?_) fun p ho => ?_
    · obtain ⟨i, hi, rfl⟩ := List.mem_iff_getElem.mp hv
      have hi' : i < rs.length := by omega
      obtain ⟨a, ys, e1, hy⟩ := hty rs[i] (List.getElem_mem hi')
      obtain ⟨u, hu1, ru⟩ := r'.get (List.getElem?_eq_getElem hi')
      rw [List.getElem?_eq_getElem hi] at hu1
      rw [e1] at ru
      obtain rfl : u = Value.ref a := ru
      rw [Option.some.inj hu1]
      obtain ⟨js, r2, p2, z2⟩ := I2.list hy
      obtain ⟨o, ho, hc, _⟩ := p2.isList
      exact hc ▸ (Looks.ld ho).andThen .now
    · obtain ⟨x, hx, rx⟩ := g i hi'
      obtain ⟨y, hy, ry⟩ := g j hj'
      obtain ⟨b, a1, a2, xs, ys, d, es, fs, rfl, rfl, h1, h2, hd, he, hf, eb⟩ := hask x hx y hy
      refine ⟨b, fun C hC => ?_⟩
      have e1 : its.getD i .none = Value.ref a1 := rx
      have e2 : its.getD j .none = Value.ref a2 := ry
      rw [e1, e2]
      rw [eb] at hC
      exact LtR.key I2 h1 h2 he hf (by rw [units_in1, units_in1]; omega) hC
    · have ho' : Ord rs.length p := by rw [ln]; exact ho
      obtain ⟨e, he⟩ := sortedAll_at s.heap its (p.map fun i => its.getD i .none)
      have en : (p.map fun i => its.getD i .none) = List.toArray (p.toList.map fun i => its.getD i .none) := by
        apply Array.toList_inj.mp
        simp
      rw [en] at he ⊢
      have fr := I.hok.fresh (a := s.heap.objs.size + 1) (Nat.le_succ _)
      have pp : p.toList.Perm (List.range rs.length) := Array.perm_iff_toList_perm.mp ho'
      refine ⟨.ref (s.heap.objs.size + 1), _, I.laid (t' := s.toks) (fun _ _ => sortedAll_old) (Nat.le_succ _) (show ObjOk X.prog X.w _ _ _ (.lst (p.toList.map fun i => rs.getD i .non)) from ⟨?_, _, e, vals_getD r' p.toList (fun i hi => ho'.lt hi), he⟩), rfl, q p.toList _ pp fr⟩
      rw [List.length_map, Array.length_toList, sizeLine_eq, ho'.size]
      omega
end
/-! points and lists of points by < -/
section
variable {K : PySem.W.Frag} {H : Hp}
end
end L2
/-! ### the kit's tree of a sort of fewer than 64 items: where each question is answered by an order, its end is sorted -/
namespace L2
open PySem PySem.Spec PyProof.Rows PySem.W
/-- the tree walked with the answers c -/
def krun (c : Nat → Nat → Bool) {α : Type} : KasT α → α
  | .ret a => a
  | .ask i j k => krun c (k (c i j))
theorem krun_bind {c : Nat → Nat → Bool} {α β : Type} {f : α → KasT β} : ∀ (t : KasT α), krun c (t.bind f) = krun c (f (krun c t))
  | .ret _ => rfl
  | .ask i j k => krun_bind (k (c i j))
/-- what an order keeps: not less the other way round, told on -/
structure Ordr (c : Nat → Nat → Bool) : Prop where
  asym : ∀ a b, c a b = true → c b a = false
  tr : ∀ a b d, c b a = false → c d b = false → c d a = false
section
variable {c : Nat → Nat → Bool}
abbrev at0 (p : Array Nat) (i : Nat) : Nat := p.getD i 0
/-- the first m, none less than one ahead of it -/
def Up (c : Nat → Nat → Bool) (p : Array Nat) (m : Nat) : Prop := ∀ i j, i < j → j < m → c (at0 p j) (at0 p i) = false
def Dn (c : Nat → Nat → Bool) (p : Array Nat) (m : Nat) : Prop := ∀ i j, i < j → j < m → c (at0 p i) (at0 p j) = false
theorem Up.more (O : Ordr c) {p : Array Nat} {m : Nat} (h : Up c p m) (hm : 0 < m) (e : c (at0 p m) (at0 p (m - 1)) = false) : Up c p (m + 1) := by
  intro i j hij hj
  by_cases hjm : j < m
  · exact h i j hij hjm
  · obtain rfl : j = m := by omega
    by_cases hi : i = j - 1
    · subst hi; exact e
    · exact O.tr _ _ _ (h i (j - 1) (by omega) (by omega)) e
theorem Dn.more (O : Ordr c) {p : Array Nat} {m : Nat} (h : Dn c p m) (hm : 0 < m) (e : c (at0 p (m - 1)) (at0 p m) = false) : Dn c p (m + 1) := by
  intro i j hij hj
  by_cases hjm : j < m
  · exact h i j hij hjm
  · obtain rfl : j = m := by omega
    by_cases hi : i = j - 1
    · subst hi; exact e
    · exact O.tr _ _ _ e (h i (j - 1) (by omega) (by omega))
theorem krun_asc (O : Ordr c) {p : Array Nat} : ∀ (f m : Nat), 0 < m → Up c p m → m ≤ krun c (kas_asc p f m) ∧ krun c (kas_asc p f m) ≤ m + f ∧ Up c p (krun c (kas_asc p f m)) ∧ (krun c (kas_asc p f m) < m + f → c (at0 p (krun c (kas_asc p f m))) (at0 p (krun c (kas_asc p f m) - 1)) = true)
  | 0, m, hm, h => ⟨Nat.le_refl _, Nat.le_refl _, h, fun z => absurd z (Nat.lt_irrefl _)⟩
  | f + 1, m, hm, h => by
    unfold kas_asc krun
    cases e : c (p.getD m 0) (p.getD (m - 1) 0) with
    | true =>
      dsimp only
      rw [if_pos rfl]
      exact ⟨Nat.le_refl _, by show m ≤ _; omega, h, fun _ => e⟩
    | false =>
      dsimp only
      rw [if_neg (by decide)]
      obtain ⟨h1, h2, h3, h4⟩ := krun_asc O f (m + 1) (by omega) (h.more O hm e)
      exact ⟨by omega, by omega, h3, fun z => h4 (by omega)⟩
theorem rev_at {p : Array Nat} {i j : Nat} (hj : j ≤ p.size) (k : Nat) : at0 (kas_rev p i j) k = if i ≤ k ∧ k < j then at0 p (i + j - 1 - k) else at0 p k := by
  have h := getElem?_mirror_all (xs := p) (i := i) hj k
  have e : ∀ q : Array Nat, ∀ k, at0 q k = (q[k]?).getD 0 := fun q k => by simp [at0, Array.getD]; split <;> simp [*]
  rw [e, e, e]
  unfold kas_rev
  rw [h]
  split <;> rfl
theorem rev_size (p : Array Nat) (i j : Nat) : (kas_rev p i j).size = p.size := mirror_size _ _ _ _
theorem Dn.rev_all {p : Array Nat} {m : Nat} (h : Dn c p m) (hm : m ≤ p.size) : Up c (kas_rev p 0 m) m := by
  intro i j hij hj
  rw [rev_at hm, rev_at hm, if_pos ⟨by omega, hj⟩, if_pos ⟨by omega, by omega⟩]
  exact h _ _ (by omega) (by omega)
theorem Up.rev_all {p : Array Nat} {m : Nat} (h : Up c p m) (hm : m ≤ p.size) : Dn c (kas_rev p 0 m) m := by
  intro i j hij hj
  rw [rev_at hm, rev_at hm, if_pos ⟨by omega, by omega⟩, if_pos ⟨by omega, hj⟩]
  exact h _ _ (by omega) (by omega)
/-- the block of like ones at the end may be turned -/
theorem Dn.rev_blk {p : Array Nat} {m q : Nat} (h : Dn c p m) (hm : m ≤ p.size) (hq : q + 1 ≤ m) (hb : ∀ i j, m - (q + 1) ≤ i → i < m → m - (q + 1) ≤ j → j < m → c (at0 p i) (at0 p j) = false) : Dn c (kas_rev p (m - (q + 1)) m) m := by
  intro i j hij hj
  rw [rev_at hm, rev_at hm]
  by_cases h1 : m - (q + 1) ≤ i
  · rw [if_pos ⟨h1, by omega⟩, if_pos ⟨by omega, hj⟩]
    exact hb _ _ (by omega) (by omega) (by omega) (by omega)
  · rw [if_neg (by omega)]
    by_cases h2 : m - (q + 1) ≤ j
    · rw [if_pos ⟨h2, hj⟩]
      exact h _ _ (by omega) (by omega)
    · rw [if_neg (by omega)]
      exact h _ _ hij hj
/-- the q + 1 at the end are alike -/
def Blk (c : Nat → Nat → Bool) (p : Array Nat) (m q : Nat) : Prop := q + 1 ≤ m ∧ ∀ i j, m - (q + 1) ≤ i → i < m → m - (q + 1) ≤ j → j < m → c (at0 p i) (at0 p j) = false
theorem krun_desc (O : Ordr c) : ∀ (f : Nat) (p : Array Nat) (m q : Nat), m + f ≤ p.size → 0 < m → Dn c p m → Blk c p m q → ∀ r, r = krun c (kas_desc f p m q) → r.1.size = p.size ∧ m ≤ r.2.1 ∧ r.2.1 ≤ m + f ∧ Dn c r.1 r.2.1 ∧ Blk c r.1 r.2.1 r.2.2
  | 0, p, m, q, _, _, hd, hb, r, e => by
    subst e
    exact ⟨rfl, Nat.le_refl _, Nat.le_refl _, hd, hb⟩
  | f + 1, p, m, q, hs, hm, hd, hb, r, e => by
    unfold kas_desc krun at e
    cases e1 : c (p.getD m 0) (p.getD (m - 1) 0) with
    | true =>
      rw [e1] at e
      dsimp only at e
      rw [if_pos rfl] at e
      have e2 := O.asym _ _ e1
      by_cases hq : q > 0
      · rw [if_pos hq] at e
        have hd2 := hd.rev_blk (by omega) hb.1 hb.2
        have at_m : at0 (kas_rev p (m - (q + 1)) m) m = at0 p m := by rw [rev_at (by omega), if_neg (by omega)]
        have at_m1 : at0 (kas_rev p (m - (q + 1)) m) (m - 1) = at0 p (m - (q + 1) + m - 1 - (m - 1)) := by rw [rev_at (by omega), if_pos ⟨by have := hb.1; omega, by omega⟩]
        have e3 : c (at0 (kas_rev p (m - (q + 1)) m) (m - 1)) (at0 (kas_rev p (m - (q + 1)) m) m) = false := by
          rw [at_m, at_m1]
          have b1 := hb.1
          exact O.tr _ _ _ e2 (hb.2 _ (m - 1) (by omega) (by omega) (by omega) (by omega))
        have hd3 := hd2.more O hm e3
        have hb3 : Blk c (kas_rev p (m - (q + 1)) m) (m + 1) 0 := ⟨by omega, fun i j h1 h2 h3 h4 => by
          obtain rfl : i = m := by omega
          obtain rfl : j = i := by omega
          cases h : c (at0 (kas_rev p (j - (q + 1)) j) j) (at0 (kas_rev p (j - (q + 1)) j) j) with
          | false => rfl
          | true => have := O.asym _ _ h; rw [h] at this; cases this⟩
        obtain ⟨r1, r2, r3, r4, r5⟩ := krun_desc O f _ (m + 1) 0 (by rw [rev_size]; omega) (by omega) hd3 hb3 r e
        exact ⟨by rw [r1, rev_size], by omega, by omega, r4, r5⟩
      · rw [if_neg hq] at e
        have hd3 := hd.more O hm e2
        have hb3 : Blk c p (m + 1) 0 := ⟨by omega, fun i j h1 h2 h3 h4 => by
          obtain rfl : i = m := by omega
          obtain rfl : j = i := by omega
          cases h : c (at0 p j) (at0 p j) with
          | false => rfl
          | true => have := O.asym _ _ h; rw [h] at this; cases this⟩
        obtain ⟨r1, r2, r3, r4, r5⟩ := krun_desc O f _ (m + 1) 0 (by omega) (by omega) hd3 hb3 r e
        exact ⟨r1, by omega, by omega, r4, r5⟩
    | false =>
      rw [e1] at e
      dsimp only at e
      rw [if_neg (by decide)] at e
      unfold krun at e
      cases e2 : c (p.getD (m - 1) 0) (p.getD m 0) with
      | true =>
        rw [e2] at e
        dsimp only at e
        rw [if_pos rfl] at e
        subst e
        exact ⟨rfl, Nat.le_refl _, by show m ≤ _; omega, hd, hb⟩
      | false =>
        rw [e2] at e
        dsimp only at e
        rw [if_neg (by decide)] at e
        have hd3 := hd.more O hm e2
        have b1 := hb.1
        have hb3 : Blk c p (m + 1) (q + 1) := ⟨by omega, fun i j h1 h2 h3 h4 => by
          by_cases hi : i = m
          · by_cases hj : j = m
            · subst hi; subst hj
              cases h : c (at0 p j) (at0 p j) with
              | false => rfl
              | true => have := O.asym _ _ h; rw [h] at this; cases this
            · subst hi
              exact O.tr _ _ _ (hb.2 _ _ (by omega) (by omega) (by omega) (by omega)) e1
          · by_cases hj : j = m
            · subst hj
              exact O.tr _ _ _ e2 (hb.2 _ _ (by omega) (by omega) (by omega) (by omega))
            · exact hb.2 _ _ (by omega) (by omega) (by omega) (by omega)⟩
        obtain ⟨r1, r2, r3, r4, r5⟩ := krun_desc O f _ (m + 1) (q + 1) (by omega) (by omega) hd3 hb3 r e
        exact ⟨r1, by omega, by omega, r4, r5⟩
theorem krun_tail (O : Ordr c) {p : Array Nat} {m n : Nat} (hn : n ≤ p.size) (hm : m ≤ n) (h0 : 0 < m) (hd : Dn c p m) : ∀ r, r = krun c (kas_tail3 m n p) → r.2.size = p.size ∧ 0 < r.1 ∧ r.1 ≤ n ∧ Up c r.2 r.1 := by
  intro r e
  unfold kas_tail3 at e
  rw [krun_bind] at e
  subst e
  obtain ⟨h1, h2, h3, _⟩ := krun_asc O (n - m) m h0 (hd.rev_all (by omega))
  exact ⟨rev_size _ _ _, by show 0 < krun c _; omega, by show krun c _ ≤ n; omega, h3⟩
theorem krun_part (O : Ordr c) {p : Array Nat} {m n : Nat} (hn : n ≤ p.size) (hm : m < n) (h0 : 0 < m) (hd : Dn c p m) (e : c (at0 p m) (at0 p (m - 1)) = true) : ∀ r, r = krun c (kas_descPart m n p) → r.2.size = p.size ∧ 0 < r.1 ∧ r.1 ≤ n ∧ Up c r.2 r.1 := by
  intro r er
  unfold kas_descPart at er
  rw [krun_bind] at er
  have hd1 := hd.more O h0 (O.asym _ _ e)
  have hb1 : Blk c p (m + 1) 0 := ⟨by omega, fun i j h1 h2 h3 h4 => by
    obtain rfl : i = m := by omega
    obtain rfl : j = i := by omega
    cases h : c (at0 p j) (at0 p j) with
    | false => rfl
    | true => have := O.asym _ _ h; rw [h] at this; cases this⟩
  obtain ⟨r1, r2, r3, r4, r5⟩ := krun_desc O (n - (m + 1)) p (m + 1) 0 (by omega) (by omega) hd1 hb1 _ rfl
  generalize krun c (kas_desc (n - (m + 1)) p (m + 1) 0) = d at *
  split at er
  · obtain ⟨t1, t2, t3, t4⟩ := krun_tail O (p := kas_rev d.1 (d.2.1 - (d.2.2 + 1)) d.2.1) (m := d.2.1) (n := n) (by rw [rev_size]; omega) (by omega) (by omega) (r4.rev_blk (by omega) r5.1 r5.2) r er
    exact ⟨by rw [t1, rev_size, r1], t2, t3, t4⟩
  · obtain ⟨t1, t2, t3, t4⟩ := krun_tail O (p := d.1) (m := d.2.1) (n := n) (by omega) (by omega) (by omega) r4 r er
    exact ⟨by rw [t1, r1], t2, t3, t4⟩
theorem krun_count (O : Ordr c) {p : Array Nat} {n : Nat} (hn : n ≤ p.size) (h0 : 0 < n) : ∀ r, r = krun c (kas_count n p) → r.2.size = p.size ∧ 0 < r.1 ∧ r.1 ≤ n ∧ Up c r.2 r.1 := by
  intro r er
  unfold kas_count at er
  rw [krun_bind] at er
  obtain ⟨h1, h2, h3, h4⟩ := krun_asc O (p := p) (n - 1) 1 (by decide) (fun i j a b => absurd b (by omega))
  generalize krun c (kas_asc p (n - 1) 1) = m at *
  by_cases hm : m = n
  · subst hm
    rw [if_pos (by simp)] at er
    subst er
    exact ⟨rfl, h0, Nat.le_refl _, h3⟩
  · rw [if_neg (by simp [hm])] at er
    have st := h4 (by omega)
    by_cases h5 : m > 1
    · rw [if_pos h5] at er
      unfold krun at er
      cases e1 : c (p.getD 0 0) (p.getD (m - 1) 0) with
      | true =>
        rw [e1] at er
        dsimp only at er
        rw [if_pos rfl] at er
        subst er
        exact ⟨rfl, by show 0 < m; omega, by show m ≤ n; omega, h3⟩
      | false =>
        rw [e1] at er
        dsimp only at er
        rw [if_neg (by decide)] at er
        have hd := h3.rev_all (by omega : m ≤ p.size)
        obtain ⟨t1, t2, t3, t4⟩ := krun_part O (p := kas_rev p 0 m) (m := m) (n := n) (by rw [rev_size]; exact hn) (by omega) (by omega) hd (by
          rw [rev_at (by omega), rev_at (by omega), if_neg (by omega), if_pos ⟨by omega, by omega⟩, show 0 + m - 1 - (m - 1) = 0 by omega]
          cases h : c (at0 p m) (at0 p 0) with
          | true => rfl
          | false => have := O.tr _ _ _ e1 h; rw [st] at this; cases this) r er
        exact ⟨by rw [t1, rev_size], t2, t3, t4⟩
    · rw [if_neg h5] at er
      obtain rfl : m = 1 := by omega
      exact krun_part O hn (by omega) (by decide) (fun i j a b => absurd b (by omega)) st r er
theorem krun_place (O : Ordr c) {p : Array Nat} {k : Nat} (hu : Up c p k) : ∀ (f l r : Nat), r - l ≤ f → l ≤ r → r ≤ k → (∀ i, i < l → c (at0 p k) (at0 p i) = false) → (∀ i, r ≤ i → i < k → c (at0 p k) (at0 p i) = true) →
    krun c (kas_place p k f l r) ≤ k ∧ (∀ i, i < krun c (kas_place p k f l r) → c (at0 p k) (at0 p i) = false) ∧ (∀ i, krun c (kas_place p k f l r) ≤ i → i < k → c (at0 p k) (at0 p i) = true)
  | 0, l, r, hf, hl, hr, h1, h2 => by
    obtain rfl : l = r := by omega
    exact ⟨hr, h1, h2⟩
  | f + 1, l, r, hf, hl, hr, h1, h2 => by
    unfold kas_place
    by_cases h : l ≥ r
    · rw [if_pos h]
      obtain rfl : l = r := by omega
      exact ⟨hr, h1, h2⟩
    · rw [if_neg h]
      unfold krun
      cases e : c (p.getD k 0) (p.getD ((l + r) / 2) 0) with
      | true =>
        dsimp only
        rw [if_pos rfl]
        refine krun_place O hu f l ((l + r) / 2) (by omega) (by omega) (by omega) h1 fun i a b => ?_
        by_cases hi : i = (l + r) / 2
        · subst hi; exact e
        · cases q : c (at0 p k) (at0 p i) with
          | true => rfl
          | false => have := O.tr _ _ _ (hu ((l + r) / 2) i (by omega) b) q; rw [e] at this; cases this
      | false =>
        dsimp only
        rw [if_neg (by decide)]
        refine krun_place O hu f ((l + r) / 2 + 1) r (by omega) (by omega) hr (fun i a => ?_) h2
        by_cases hi : i = (l + r) / 2
        · subst hi; exact e
        · exact O.tr _ _ _ (hu i ((l + r) / 2) (by omega) (by omega)) e
theorem bub_at {p : Array Nat} {k d : Nat} (hk : k < p.size) (hd : d ≤ k) (i : Nat) : at0 (bubble p k d) i = if i = k - d then at0 p k else if k - d < i ∧ i ≤ k then at0 p (i - 1) else at0 p i := by
  have h := getElem?_bubble hk d hd i
  have e : ∀ q : Array Nat, ∀ k, at0 q k = (q[k]?).getD 0 := fun q k => by simp [at0, Array.getD]; split <;> simp [*]
  rw [e, e, e, e, h]
  split
  · rfl
  · split <;> rfl
theorem krun_bin (O : Ordr c) : ∀ (f : Nat) (p : Array Nat) (k : Nat), 0 < k → k + f ≤ p.size → Up c p k → Up c (krun c (kas_bin f p k)) (k + f)
  | 0, p, k, _, _, h => h
  | f + 1, p, k, h0, hs, hu => by
    unfold kas_bin
    rw [krun_bind]
    obtain ⟨a1, a2, a3⟩ := krun_place O hu k 0 k (by omega) (by omega) (Nat.le_refl _) (fun i z => absurd z (by omega)) (fun i z1 z2 => absurd z2 (by omega))
    generalize krun c (kas_place p k k 0 k) = l at *
    have hu2 : Up c (bubble p k (k - l)) (k + 1) := by
      intro i j hij hj
      rw [bub_at (by omega) (by omega), bub_at (by omega) (by omega), show k - (k - l) = l by omega]
      by_cases j1 : j = l
      · rw [if_pos j1, if_neg (by omega), if_neg (by omega)]
        exact a2 i (by omega)
      · rw [if_neg j1]
        by_cases j2 : l < j ∧ j ≤ k
        · rw [if_pos j2]
          by_cases i1 : i = l
          · rw [if_pos i1]
            exact O.asym _ _ (a3 (j - 1) (by omega) (by omega))
          · rw [if_neg i1]
            by_cases i2 : l < i ∧ i ≤ k
            · rw [if_pos i2]; exact hu _ _ (by omega) (by omega)
            · rw [if_neg i2]; exact hu _ _ (by omega) (by omega)
        · rw [if_neg j2, if_neg (by omega), if_neg (by omega)]
          exact hu _ _ hij (by omega)
    have := krun_bin O f (bubble p k (k - l)) (k + 1) (by omega) (by rw [bubble_size]; omega) hu2
    rw [show k + (f + 1) = k + 1 + f by omega]
    exact this
/-- the whole sort -/
theorem krun_sort (O : Ordr c) {n : Nat} (h0 : 0 < n) : Up c (krun c (kas_sort n)) n := by
  unfold kas_sort
  rw [krun_bind]
  obtain ⟨r1, r2, r3, r4⟩ := krun_count O (p := List.toArray (List.range n)) (n := n) (by simp) h0 _ rfl
  generalize krun c (kas_count n (List.toArray (List.range n))) = r at *
  have sz : r.2.size = n := by rw [r1]; simp
  by_cases h : r.1 < n
  · rw [if_pos h]
    have em : max r.1 1 = r.1 := by omega
    rw [em]
    have := krun_bin O (n - r.1) r.2 r.1 r2 (by omega) r4
    rw [show r.1 + (n - r.1) = n by omega] at this
    exact this
  · rw [if_neg h]
    have : r.1 = n := by omega
    rw [this] at r4
    exact r4
end
end L2
/-! ### sorted(xs), xs a list of tuples of ints of one length: the sorted list -/
namespace L2
open PySem PySem.Spec PyProof.Rows PySem.W
theorem Leaves.wpc {n : Nat} {c : Nat → Nat → Bool} {α : Type} {R : α → Prop} {cmp : Nat → Nat → (Bool → Shared → Prop) → Shared → Prop} {Q : α → Shared → Prop} {s : Shared} (hc : ∀ i j, i < n → j < n → ∀ C : Bool → Shared → Prop, C (c i j) s → cmp i j C s) : ∀ {t : KasT α}, (R (krun c t) → Q (krun c t) s) → Leaves n R t → t.kasWp cmp Q s
  | .ret a, hq, h => hq h
  | .ask i j k, hq, h => hc i j h.1 h.2.1 _ (Leaves.wpc hc (t := k (c i j)) hq (h.2.2 (c i j)))
theorem lexI_le : ∀ {xs ys zs : List Int}, xs.length = ys.length → ys.length = zs.length → lexI false ys xs = false → lexI false zs ys = false → lexI false zs xs = false
  | [], [], [], _, _, _, _ => rfl
  | x :: xs, y :: ys, z :: zs, h1, h2, a, b => by
    unfold lexI at a b ⊢
    by_cases e1 : y = x
    · rw [if_pos e1] at a
      by_cases e2 : z = y
      · rw [if_pos e2] at b
        rw [if_pos (e2.trans e1)]
        exact lexI_le (by simpa using h1) (by simpa using h2) a b
      · rw [if_neg e2] at b
        have := of_decide_eq_false b
        rw [if_neg (by omega)]
        exact decide_eq_false (by omega)
    · rw [if_neg e1] at a
      have a := of_decide_eq_false a
      by_cases e2 : z = y
      · rw [if_neg (by omega)]
        exact decide_eq_false (by omega)
      · rw [if_neg e2] at b
        have := of_decide_eq_false b
        rw [if_neg (by omega)]
        exact decide_eq_false (by omega)
theorem lexI_asym : ∀ {xs ys : List Int}, xs.length = ys.length → lexI false xs ys = true → lexI false ys xs = false
  | [], [], _, h => nomatch h
  | x :: xs, y :: ys, hl, h => by
    unfold lexI at h ⊢
    by_cases e : x = y
    · rw [if_pos e] at h
      rw [if_pos e.symm]
      exact lexI_asym (by simpa using hl) h
    · rw [if_neg e] at h
      have := of_decide_eq_true h
      rw [if_neg (by omega)]
      exact decide_eq_false (by omega)
theorem ltI_same {xs ys : List Int} (h : xs.length = ys.length) : ltI xs ys = lexI false xs ys := by
  unfold ltI
  rw [decide_eq_false (by omega)]
def keyC (xss : List (List Int)) (i : Nat) : List Int := xss.getD i (xss.headD [])
def ordC (xss : List (List Int)) (i j : Nat) : Bool := ltI (keyC xss i) (keyC xss j)
theorem keyC_in {xss : List (List Int)} {i : Nat} (h : i < xss.length) : keyC xss i = xss.getD i [] := by
  unfold keyC
  rw [List.getD_eq_getElem?_getD, List.getD_eq_getElem?_getD, List.getElem?_eq_getElem h]
  rfl
theorem ordC_in {xss : List (List Int)} {i j : Nat} (hi : i < xss.length) (hj : j < xss.length) : ordC xss i j = ltI (xss.getD i []) (xss.getD j []) := by
  unfold ordC
  rw [keyC_in hi, keyC_in hj]
theorem keyC_len {xss : List (List Int)} {m : Nat} (h0 : 0 < xss.length) (h : ∀ xs ∈ xss, xs.length = m) (i : Nat) : (keyC xss i).length = m := by
  unfold keyC
  rw [List.getD_eq_getElem?_getD]
  cases e : xss[i]? with
  | some x => exact h x (List.mem_of_getElem? e)
  | none =>
    cases xss with
    | nil => cases h0
    | cons x xs => exact h x (by simp)
theorem ordr_of {xss : List (List Int)} {m : Nat} (h0 : 0 < xss.length) (h : ∀ xs ∈ xss, xs.length = m) : Ordr (ordC xss) := by
  have k := keyC_len h0 h
  refine ⟨fun a b e => ?_, fun a b d e1 e2 => ?_⟩
  · unfold ordC at e ⊢
    rw [ltI_same (by rw [k, k])] at e ⊢
    exact lexI_asym (by rw [k, k]) e
  · unfold ordC at e1 e2 ⊢
    rw [ltI_same (by rw [k, k])] at e1 e2 ⊢
    exact lexI_le (by rw [k, k]) (by rw [k, k]) e1 e2
section
variable {prog : Program} {w : World} {A : Around} {E : Value → Shared → Prop} {s : Shared}
theorem sort_kasC {c : Nat → Nat → Bool} {kd : SortKind} {a : Addr} {vs : List Value} {n : Nat} {P : PySem.Fin → Shared → Prop} (ho : s.heap.get? a = some (seqObj "list" vs.toArray n)) (h2 : 2 ≤ vs.length) (h64 : vs.length < 64)
    (hkd : ∀ (R : SortKind → Shared → Prop), R kd { s with heap := sortIn s.heap a vs } → wpAny (model prog w) A (keyKind' vs.toArray) R E { s with heap := sortIn s.heap a vs })
    (hc : ∀ i j, i < vs.length → j < vs.length → ∀ C : Bool → Shared → Prop, C (c i j) { s with heap := sortIn s.heap a vs } → wpAny (model prog w) A (keyLt' kd (vs.getD i .none) (vs.getD j .none)) C (fun _ _ => False) { s with heap := sortIn s.heap a vs })
    (h : ∀ p, Ord vs.length p → p = krun c (kas_sort vs.length) → P (.done (.ret .none)) { s with heap := sortedHeap s.heap a vs (p.map fun i => vs.getD i .none) }) : wpAny (model prog w) A (Builtin.«list.sort» ⟨[.ref a], []⟩) P E s := by
  rw [list_sort_plain]
  have ha : a < s.heap.objs.size := Heap.lt_size ho
  refine wpAny_bind (listItems_at ho rfl ?_)
  refine wpAny_bind (listUpdate_at ho rfl ?_ (by rw [List.size_toArray, sizeLine_eq]; omega) (Nat.zero_le _))
  obtain ⟨e1, ho1⟩ : ∃ e1, (s.heap.update a (Obj.mapSeq fun _ => (#[] : Array Value))).get? a = some (seqObj "list" #[] e1) := ⟨_, get?_update_seq ho (fun _ => #[])⟩
  refine wpAny_bind (seqEpoch_at ho1 rfl ?_)
  refine wpAny_bind (wpAny_newTuple ?_ (by show vs.length ≤ _; rw [sizeLine_eq]; omega))
  refine wpAny_bind (wpAny_newList ?_ (Nat.zero_le _))
  refine wpAny_holding ?_
  have ho6 : (sortIn s.heap a vs).get? a = some (seqObj "list" #[] e1) := by
    rw [Heap.get?_push_ne _ _ _ (by rw [size_push', Heap.size_update]; exact Nat.ne_of_lt (Nat.lt_succ_of_lt ha)), Heap.get?_push_ne _ _ _ (by rw [Heap.size_update]; exact Nat.ne_of_lt ha)]
    exact ho1
  show wpAny (model prog w) A _ P E { s with heap := sortIn s.heap a vs }
  dsimp only
  have hn2 : ¬ vs.toArray.size < 2 := by rw [List.size_toArray]; omega
  rw [if_neg hn2, if_neg hn2]
  refine wpAny_bind (hkd _ ?_)
  have est : kas_st kd (pairsOf vs) (List.toArray (List.range vs.length)) = SortSt.mk' kd (vs.toArray.zip vs.toArray) #[] 7 none := by
    have e := kas_range (pairsOf vs)
    rw [pairsOf_size] at e
    show SortSt.mk' kd ((List.toArray (List.range vs.length)).map (kas_item (pairsOf vs))) #[] 7 none = SortSt.mk' kd (pairsOf vs) #[] 7 none
    rw [e]
  have ask : (kas_sort vs.length).kasWp (kas_cmp prog w A kd (pairsOf vs)) (fun p s' => s' = { s with heap := sortIn s.heap a vs } ∧ Ord vs.length p ∧ p = krun c (kas_sort vs.length)) { s with heap := sortIn s.heap a vs } := by
    refine Leaves.wpc (c := c) (fun i j hi hj C hC => ?_) (fun hp => ⟨rfl, hp, rfl⟩) (lv_sort (by omega))
    rw [← kas_ask_eq]
    exact hc i j hi hj C hC
  have run := kas_runs (E := E) (Q := fun _ st' s' => ∃ p, s' = { s with heap := sortIn s.heap a vs } ∧ (Ord vs.length p ∧ p = krun c (kas_sort vs.length)) ∧ arrOf st' = p.map (kas_item (pairsOf vs)) ∧ failedOf st' = none) h2 h64 (fun p' st' s' _ a2 a3 a4 => ⟨p', a4.1, a4.2, a2, a3⟩) ask
  rw [est] at run
  refine wpAny_bind (wpAny_mono run ?_ fun _ _ e => e)
  rintro ⟨⟨⟩, st'⟩ s' ⟨p, rfl, ⟨hp, hpc⟩, har, hf⟩
  dsimp only at har hf ⊢
  have eo : (arrOf st').map (·.2) = p.map fun i => vs.getD i .none := by
    rw [har, Array.map_map]
    refine Array.map_congr_left fun i _ => ?_
    show (kas_item (pairsOf vs) i).2 = _
    rw [kas_item_eq]
  rw [eo]
  refine wpAny_bind (seqEpoch_at ho6 rfl ?_)
  refine wpAny_bind (listUpdate_at ho6 rfl ?_ (Nat.zero_le _) (by rw [Array.size_map, sizeLine_eq, hp.size]; omega))
  rw [hf]
  simp only [bne_self_eq_false, Bool.false_eq_true, if_false]
  exact wpAny_pure (h p hp hpc)
end
section
variable {X : Cx} {pins : List (Addr × Obj)} {σ : St} {H : Hp} {s : Shared}
end
end L2
/-! ### a comprehension over a tuple; isinstance in one -/
namespace L2
open PySem PySem.Spec PyProof.Rows
section
variable {X : Cx} {K : PySem.W.Frag}
end
end L2
/-! ### t[lo:hi] of a tuple, the whole of it too -/
namespace HT
open PySem PySem.Spec PyProof.Rows
section
variable {prog : Program} {w : World} {A : Around} {E : Value → Shared → Prop} {s : Shared}
theorem getItem_tuple_all {t sl : Addr} {items : Array Value} {vl vu : Value} {lo hi : Option Int} {Q : Value → Shared → Prop} (ht : IsTup s.heap t items) (hs : s.heap.IsSliceOf sl vl vu .none) (pl : IsPart vl lo) (pu : IsPart vu hi)
    (hw : sIx items.size 0 lo = 0 ∧ sIx items.size items.size hi = items.size) (h : Q (.ref t) s) : wpAny (model prog w) A (getItem (.ref t) (.ref sl)) Q E s := by
  obtain ⟨os, hos, hcs, hds⟩ := id hs
  have hTs : s.TypeIs (.ref sl) "slice" := ⟨os, hos, hcs⟩
  unfold getItem
  try with_reducible refine wpAny_holding ?_
  first | refine wpAny_bind (wpAny_pure ?_) | skip
  refine wpAny_bind (wpAny_sequenceKey ht.typeIs (by decide) ?_)
  refine wpAny_bind (wpAny_callSpecial?_slot (name := Str.ofString "__getitem__") ht.typeIs PyProof.Rows.slot_tuple_getitem
    (wpAny_call_entry PyProof.Rows.slot_tuple_getitem ht.typeIs entry_tuple_getitem ?_ (args_tuple_getitem _ _)))
  show wpAny _ _ (Builtin.Tuple.tupleItemsOf (.ref t) >>= _) _ _ s
  refine wpAny_bind (tupleItemsOf_ ht ?_)
  refine wpAny_bind (wpAny_typeOf hTs ?_)
  rw [if_pos (by decide)]
  refine wpAny_bind (sliceApplied_gen hs pl pu ?_)
  have hyes : (((sIx items.size 0 lo : Nat) : Int) == 0 && (1 : Int) == 1 && (sIx items.size items.size hi - sIx items.size 0 lo) == items.size) = true := by
    rw [hw.1, hw.2]
    simp
  show wpAny _ _ (if (((sIx items.size 0 lo : Nat) : Int) == 0 && (1 : Int) == 1 && (sIx items.size items.size hi - sIx items.size 0 lo) == items.size) = true then _ else _) _ _ s
  rw [if_pos hyes]
  unfold Builtin.Tuple.tupleIsExact
  refine wpAny_bind (wpAny_bind (wpAny_typeOf ht.typeIs (wpAny_pure ?_)))
  rw [if_pos (by decide)]
  refine wpAny_bind (wpAny_rule ?_)
  exact wpAny_pure ⟨_, rfl, wpAny_pure h⟩
end
end HT
namespace L2
open PySem PySem.Spec PyProof.Rows
section
variable {X : Cx}
/-- t[lo:hi], the whole of it being t itself -/
def rSlA (K : PySem.W.Frag) : V → Option Int → Option Int → Hp → VK → Prop := fun x lo hi H Q => ∃ a xs, x = .ref a ∧ SqT K H a xs ∧
  ((HT.sIx xs.length 0 lo = 0 ∧ HT.sIx xs.length xs.length hi = xs.length) → Q (.ref a) H) ∧ (¬ (HT.sIx xs.length 0 lo = 0 ∧ HT.sIx xs.length xs.length hi = xs.length) → ∀ p, H p = none → Q (.ref p) (upd H p (.tup (cutV xs lo hi))))
theorem sl_tupA : SlR X (rSlA X.K) := by
  intro pins s σ H x v vl vu lo hi sl Q I rx hs pl pu h
  obtain ⟨a, xs, rfl, hx, q1, q2⟩ := h
  by_cases hw : HT.sIx xs.length 0 lo = 0 ∧ HT.sIx xs.length xs.length hi = xs.length
  · cases rx
    obtain ⟨its, r, ht, hz⟩ := I.tuple hx
    have hlen : its.toArray.size = xs.length := by rw [List.size_toArray]; exact r.length.symm
    refine ⟨"tuple", _, PyProof.Rows.slot_tuple_getitem.lookup, ht.typeIs, ?_⟩
    exact HT.getItem_tuple_all ht hs pl pu (by rw [hlen]; exact hw) ⟨.ref a, H, I, rfl, q1 hw⟩
  · exact sl_tup pins s σ H _ v vl vu lo hi sl Q I rx hs pl pu ⟨a, xs, rfl, hx, hw, q2 hw⟩
end
end L2
/-! ### sorted(xs, key=f), f an own def that tells truths, of what is sorted so; xs.count(x) -/
namespace L2
open PySem PySem.Spec PyProof.Rows PySem.W
section
variable {c : Nat → Nat → Bool}
end
section
variable {X : Cx} {pins : List (Addr × Obj)} {σ : St} {H : Hp} {s : Shared}
def bvs (bs : List Bool) : Array Value := (bs.map Value.bool).toArray
/-- == tells e of two things -/
def EqT (K : PySem.W.Frag) (H : Hp) (n : Nat) (x y : V) (e : Bool) : Prop := ∀ (X : Cx) (pins : List (Addr × Obj)) (σ : St) (s : Shared), X.K = K → Inv X pins σ H s → ∀ (A : Around) (u v : Value), A.units + n < cLine → RelV x u → RelV y v → SeqAt.EqAt A s u v e
theorem EqR.told {K : PySem.W.Frag} {n : Nat} {x y : V} {e : Bool} (h : EqR K H n x y e) : EqT K H n x y e := fun X pins σ s hk I A u v hu ru rv => by
  subst hk
  exact (h.at_ I (A := A) hu ru rv).2.2
def Told2 (K : PySem.W.Frag) (H : Hp) (n : Nat) (xs : List V) (x : V) (es : Nat → Bool) : Prop := n ≤ 8 ∧ (∀ (j : Nat) z, xs[j]? = some z → (∃ a, z = .ref a) ∧ EqT K H n z x (es j)) ∧ ∀ (i j : Nat) z, xs[i]? = some z → xs[j]? = some z → es i = es j
open Classical in
theorem eTold2_at {n : Nat} {xs : List V} {x : V} {es : Nat → Bool} {its : List Value} (t : Told2 X.K H n xs x es) (r : Vals xs its) {j : Nat} {u : Value} (hu : its[j]? = some u) : eTold its es u = es j := by
  have same : ∀ i : Nat, its[i]? = some u → es i = es j := fun i hi => by
    have li := (List.getElem?_eq_some_iff.mp hi).1
    have lj := (List.getElem?_eq_some_iff.mp hu).1
    have ln := r.length
    have xi : xs[i]? = some xs[i] := List.getElem?_eq_getElem (by omega)
    have xj : xs[j]? = some xs[j] := List.getElem?_eq_getElem (by omega)
    obtain ⟨u1, e1, r1⟩ := r.get xi
    obtain ⟨u2, e2, r2⟩ := r.get xj
    rw [hi] at e1
    rw [hu] at e2
    cases e1
    cases e2
    obtain ⟨⟨a, ea⟩, _⟩ := t.2.1 i _ xi
    obtain ⟨⟨b, eb⟩, _⟩ := t.2.1 j _ xj
    rw [ea] at r1 xi
    rw [eb] at r2 xj
    obtain rfl : u = Value.ref a := r1
    have : Value.ref a = Value.ref b := r2
    cases this
    exact t.2.2 i j _ xi xj
  unfold eTold
  cases h : es j with
  | true => exact decide_eq_true ⟨j, hu, h⟩
  | false => exact decide_eq_false fun ⟨i, hi, e⟩ => by rw [same i hi, h] at e; cases e
/-- xs.count(x), by what == tells of each item -/
def rCountD (K : PySem.W.Frag) : V → List V → Hp → VK → Prop := fun o vs H Q => ∃ (p : Addr) (xs : List V) (x : V) (n : Nat) (es : Nat → Bool), o = .ref p ∧ vs = [x] ∧ SqL K H p xs ∧ Told2 K H n xs x es ∧ Q (.int (((List.range xs.length).countP es : Nat) : Int)) H
theorem mt_countD {k : Nat} (hr : Room k X.A) : MtM X "list.count" (rCountD X.K) := by
  intro pins s σ H o vs v us Q I ro rv h
  obtain ⟨p, xs, x, n, es, rfl, rfl, hq, t, q⟩ := h
  cases ro
  obtain ⟨u, rfl, ru⟩ := Vals.one rv
  have hu := hr.un
  have t8 := t.1
  obtain ⟨its, r, pl, hz⟩ := I.list hq
  have ln := r.length
  obtain ⟨⟨cls, dd, data, sl⟩, ho, hc, m, hd⟩ := pl.isList
  simp only at hc hd
  subst hc hd
  have ec : its.toArray.toList.countP (eTold its es) = (List.range xs.length).countP es := by
    have e1 : its = (List.range its.length).map fun i => its.getD i .none := by
      refine List.ext_getElem (by simp) fun i h1 h2 => ?_
      simp [h1]
    have e2 : its.countP (eTold its es) = ((List.range its.length).map fun i => its.getD i .none).countP (eTold its es) := by rw [← e1]
    show its.countP (eTold its es) = _
    rw [e2, List.countP_map, ln]
    refine List.countP_congr fun i hi => ?_
    have hi' : i < its.length := by simpa using hi
    have : eTold its es (its.getD i .none) = es i := eTold2_at t r (by rw [List.getD_eq_getElem?_getD, List.getElem?_eq_getElem hi']; rfl)
    simp only [Function.comp_apply, this]
  refine call_meets F.slot_list_count ⟨_, ho, rfl⟩ F.entry_list_count (F.args_list_count_2 _ _) (SeqAt.list_countAt p its.toArray m dd sl u (eTold its es)) ⟨ho, fun y hy => ?_, ?_⟩
  · obtain ⟨j, hj, e⟩ := List.mem_iff_getElem.mp (by simpa using hy)
    have ej : its[j]? = some y := by rw [List.getElem?_eq_getElem hj, e]
    have xj : xs[j]? = some xs[j] := List.getElem?_eq_getElem (by omega)
    obtain ⟨u2, e2, r2⟩ := r.get xj
    rw [ej] at e2
    cases e2
    rw [eTold2_at t r ej]
    exact (t.2.1 j _ xj).2 X pins σ s rfl I _ _ _ (by rw [units_in1]; omega) r2 ru
  rw [ec]
  exact ⟨.int _, H, I.tok _, ⟨_, rfl⟩, q⟩
end
end L2
/-! ### the table of a set: what a search meets (no object, no run) -/
namespace L2
open PySem PySem.SetTable
/-- the slots that a search with the hash h passes -/
def pNext (m : Nat) (p : Probe) : Probe := advance { mask := m, place := #[], dummies := #[], finger := 0, led := true, moves := 0, plain := true } p
def pAt (m : Nat) (h : Int) : Nat → Probe
  | 0 => probeStart { mask := m, place := #[], dummies := #[], finger := 0, led := true, moves := 0, plain := true } h
  | n + 1 => pNext m (pAt m h n)
def sl (m : Nat) (h : Int) (n : Nat) : Nat := (pAt m h n).j
theorem adv_eq (t : SetTable) (p : Probe) : advance t p = pNext t.mask p := rfl
theorem pNext_dummy {m : Nat} {p : Probe} (h : p.dummy = none) : (pNext m p).dummy = none := by
  unfold pNext advance
  split <;> exact h
theorem pAt_dummy (m : Nat) (h : Int) : ∀ n, (pAt m h n).dummy = none
  | 0 => rfl
  | n + 1 => pNext_dummy (pAt_dummy m h n)
/-! the places of a rising array -/
def Ris (xs : Array Nat) : Prop := ∀ i j, i < j → j < xs.size → xs.getD i 0 < xs.getD j 0
theorem getD_any {xs : Array Nat} {i : Nat} (h : i < xs.size) (a b : Nat) : xs.getD i a = xs.getD i b := by simp [Array.getD, h]
theorem below_go {xs : Array Nat} {j : Nat} (r : Ris xs) : ∀ (f lo hi : Nat), hi - lo ≤ f → lo ≤ hi → hi ≤ xs.size → (∀ i, i < lo → xs.getD i 0 < j) → (∀ i, hi ≤ i → i < xs.size → j ≤ xs.getD i 0) →
    lo ≤ below.go xs j f lo hi ∧ below.go xs j f lo hi ≤ hi ∧ (∀ i, i < below.go xs j f lo hi → xs.getD i 0 < j) ∧ (∀ i, below.go xs j f lo hi ≤ i → i < xs.size → j ≤ xs.getD i 0)
  | 0, lo, hi, hf, hl, hh, h1, h2 => by
    unfold below.go
    have : lo = hi := by omega
    subst this
    exact ⟨Nat.le_refl _, Nat.le_refl _, h1, h2⟩
  | f + 1, lo, hi, hf, hl, hh, h1, h2 => by
    unfold below.go
    by_cases c : lo < hi
    · rw [if_pos c]
      dsimp only
      have hm : (lo + hi) / 2 < xs.size := by omega
      by_cases c2 : xs.getD ((lo + hi) / 2) j < j
      · rw [if_pos c2]
        rw [getD_any hm j 0] at c2
        obtain ⟨a, b, c, d⟩ := below_go r f ((lo + hi) / 2 + 1) hi (by omega) (by omega) hh (fun i hi' => by
          by_cases e : i = (lo + hi) / 2
          · rw [e]; exact c2
          · exact Nat.lt_trans (r i _ (by omega) hm) c2) h2
        exact ⟨by omega, b, c, d⟩
      · rw [if_neg c2]
        rw [getD_any hm j 0] at c2
        obtain ⟨a, b, c, d⟩ := below_go r f lo ((lo + hi) / 2) (by omega) (by omega) (by omega) h1 (fun i h3 h4 => by
          by_cases e : i = (lo + hi) / 2
          · rw [e]; omega
          · have := r ((lo + hi) / 2) i (by omega) h4
            omega)
        exact ⟨a, by omega, c, d⟩
    · rw [if_neg c]
      have : lo = hi := by omega
      subst this
      exact ⟨Nat.le_refl _, Nat.le_refl _, h1, h2⟩
theorem below_at {xs : Array Nat} (r : Ris xs) (j : Nat) : below xs j ≤ xs.size ∧ (∀ i, i < below xs j → xs.getD i 0 < j) ∧ (∀ i, below xs j ≤ i → i < xs.size → j ≤ xs.getD i 0) := by
  obtain ⟨_, b, c, d⟩ := below_go (j := j) r xs.size 0 xs.size (by omega) (Nat.zero_le _) (Nat.le_refl _) (fun i h => absurd h (by omega)) (fun i h1 h2 => by omega)
  exact ⟨b, c, d⟩
def In (xs : Array Nat) (j : Nat) : Prop := ∃ i, i < xs.size ∧ xs.getD i 0 = j
theorem below_in {xs : Array Nat} (r : Ris xs) {i : Nat} (hi : i < xs.size) : below xs (xs.getD i 0) = i := by
  obtain ⟨a, b, c⟩ := below_at r (xs.getD i 0)
  by_cases h : below xs (xs.getD i 0) < i
  · have := c _ (Nat.le_refl _) (by omega)
    have := r _ _ h hi
    omega
  · by_cases h2 : i < below xs (xs.getD i 0)
    · have := b i h2
      omega
    · omega
theorem slot_live {t : SetTable} (r : Ris t.place) {i : Nat} (hi : i < t.place.size) : t.slot (t.place.getD i 0) = .live i := by
  unfold slot
  dsimp only
  rw [below_in r hi, if_pos]
  simp [Array.getD, hi]
theorem has_nil (j : Nat) : has #[] j = false := by unfold has; simp
theorem slot_empty {t : SetTable} (r : Ris t.place) (hd : t.dummies = #[]) {j : Nat} (h : ¬ In t.place j) : t.slot j = .empty := by
  unfold slot
  dsimp only
  have e : (t.place[below t.place j]? == some j) = false := by
    cases q : t.place[below t.place j]? with
    | none => rfl
    | some x =>
      obtain ⟨hl, e⟩ := Array.getElem?_eq_some_iff.mp q
      have : x ≠ j := fun z => h ⟨_, hl, by simp [Array.getD, hl, e, z]⟩
      simpa using this
  rw [e, hd, has_nil]
  rfl
theorem in_dec (xs : Array Nat) (j : Nat) : In xs j ∨ ¬ In xs j := Classical.em _
/-! the search over the slots -/
theorem probe_go {t : SetTable} (r : Ris t.place) (hd : t.dummies = #[]) (hashAt : Nat → Int) (h : Int) : ∀ (f n0 : Nat), (∃ n1, n0 ≤ n1 ∧ n1 < n0 + f ∧ ¬ In t.place (sl t.mask h n1)) →
    ∃ n, n0 ≤ n ∧ (∀ k, n0 ≤ k → k < n → ∃ i, i < t.place.size ∧ t.place.getD i 0 = sl t.mask h k ∧ (hashAt i == h) = false) ∧
      ((¬ In t.place (sl t.mask h n) ∧ probe.go t hashAt h f (pAt t.mask h n0) = some (.empty (sl t.mask h n) none)) ∨
       ∃ i, i < t.place.size ∧ t.place.getD i 0 = sl t.mask h n ∧ (hashAt i == h) = true ∧ probe.go t hashAt h f (pAt t.mask h n0) = some (.candidate (sl t.mask h n) i (pAt t.mask h (n + 1))))
  | 0, n0, ⟨n1, h1, h2, _⟩ => absurd h2 (by omega)
  | f + 1, n0, ⟨n1, h1, h2, h3⟩ => by
    unfold probe.go
    rcases in_dec t.place (sl t.mask h n0) with c | c
    · obtain ⟨i, hi, e⟩ := c
      have sl' : t.slot (pAt t.mask h n0).j = .live i := by
        show t.slot (sl t.mask h n0) = _
        rw [← e]; exact slot_live r hi
      rw [sl']
      dsimp only
      cases q : (hashAt i == h) with
      | true =>
        refine ⟨n0, Nat.le_refl _, fun k h1 h2 => absurd h2 (by omega), .inr ⟨i, hi, e, q, ?_⟩⟩
        rw [if_pos rfl]
        rfl
      | false =>
        have ne : n0 ≠ n1 := by rintro rfl; exact h3 ⟨i, hi, e⟩
        obtain ⟨n, a, b, c⟩ := probe_go r hd hashAt h f (n0 + 1) ⟨n1, by omega, by omega, h3⟩
        refine ⟨n, by omega, fun k k1 k2 => ?_, ?_⟩
        · by_cases ek : k = n0
          · subst ek; exact ⟨i, hi, e, q⟩
          · exact b k (by omega) k2
        · rw [if_neg (by simp), adv_eq]
          exact c
    · have sl' : t.slot (pAt t.mask h n0).j = .empty := slot_empty r hd c
      rw [sl']
      refine ⟨n0, Nat.le_refl _, fun k h1 h2 => absurd h2 (by omega), .inl ⟨c, ?_⟩⟩
      dsimp only
      rw [pAt_dummy]
      rfl
/-! every slot is met -/
def jump (m : Nat) (q : Nat × Nat) : Nat × Nat := leap m q.1 q.2
def runAt (m : Nat) (q : Nat × Nat) : Probe := { j := q.1, more := runEnd m q.1 - q.1, i := q.1, perturb := q.2, dummy := none }
def jumps (m : Nat) (q : Nat × Nat) : Nat → Nat × Nat
  | 0 => q
  | n + 1 => jump m (jumps m q n)
theorem run_le (m i : Nat) : runEnd m i - i ≤ 9 := by unfold runEnd; split <;> omega
def nexts (m : Nat) (p : Probe) : Nat → Probe
  | 0 => p
  | n + 1 => pNext m (nexts m p n)
theorem nexts_add (m : Nat) (p : Probe) (a : Nat) : ∀ b, nexts m p (a + b) = nexts m (nexts m p a) b
  | 0 => rfl
  | b + 1 => by show pNext m (nexts m p (a + b)) = _; rw [nexts_add m p a b]; rfl
theorem pAt_nexts (m : Nat) (h : Int) (a : Nat) : ∀ b, pAt m h (a + b) = nexts m (pAt m h a) b
  | 0 => rfl
  | b + 1 => by show pNext m (pAt m h (a + b)) = _; rw [pAt_nexts m h a b]; rfl
theorem run_out (m : Nat) : ∀ (k : Nat) (p : Probe), p.more = k → p.dummy = none → nexts m p (k + 1) = runAt m (jump m (p.i, p.perturb))
  | 0, p, hm, hd => by
    show pNext m p = _
    unfold pNext advance
    rw [if_neg (by omega)]
    obtain ⟨j, mo, i, pe, du⟩ := p
    dsimp only at hm hd
    subst hm hd
    rfl
  | k + 1, p, hm, hd => by
    have e : nexts m p (k + 1 + 1) = nexts m (pNext m p) (k + 1) := by rw [show k + 1 + 1 = 1 + (k + 1) by omega, nexts_add]; rfl
    have en : pNext m p = { p with j := p.j + 1, more := p.more - 1 } := by
      unfold pNext advance
      rw [if_pos (by omega)]
    rw [e, run_out m k (pNext m p) (by rw [en]; show p.more - 1 = k; omega) (pNext_dummy hd), en]
theorem far (m : Nat) : ∀ (L : Nat) (p : Probe), p.more ≤ 9 → p.dummy = none → ∃ n, n ≤ 10 * (L + 1) ∧ nexts m p n = runAt m (jumps m (p.i, p.perturb) (L + 1))
  | 0, p, h9, hd => ⟨p.more + 1, by omega, run_out m p.more p rfl hd⟩
  | L + 1, p, h9, hd => by
    obtain ⟨n, hn, e⟩ := far m L p h9 hd
    have := run_le m (jumps m (p.i, p.perturb) (L + 1)).1
    refine ⟨n + (runEnd m (jumps m (p.i, p.perturb) (L + 1)).1 - (jumps m (p.i, p.perturb) (L + 1)).1 + 1), by omega, ?_⟩
    rw [nexts_add, e]
    exact run_out m _ (runAt m (jumps m (p.i, p.perturb) (L + 1))) rfl rfl
def Tm (m i : Nat) : Nat := (i * 5 + 1) % (m + 1)
def Tn (m i : Nat) : Nat → Nat
  | 0 => i
  | n + 1 => Tm m (Tn m i n)
theorem Tn_add (m i a : Nat) : ∀ b, Tn m i (a + b) = Tn m (Tn m i a) b
  | 0 => rfl
  | b + 1 => by show Tm m (Tn m i (a + b)) = _; rw [Tn_add m i a b]; rfl
theorem jumps_add (m : Nat) (q : Nat × Nat) (a : Nat) : ∀ b, jumps m q (a + b) = jumps m (jumps m q a) b
  | 0 => rfl
  | b + 1 => by show jump m (jumps m q (a + b)) = _; rw [jumps_add m q a b]; rfl
theorem jumps_pert (m : Nat) (q : Nat × Nat) : ∀ n, (jumps m q n).2 = q.2 / 32 ^ n
  | 0 => by simp [jumps]
  | n + 1 => by
    show (jumps m q n).2 / 32 = _
    rw [jumps_pert m q n, Nat.div_div_eq_div_mul, Nat.pow_succ]
theorem jumps_zero (m : Nat) (i : Nat) : ∀ n, jumps m (i, 0) n = (Tn m i n, 0)
  | 0 => rfl
  | n + 1 => by
    show jump m (jumps m (i, 0) n) = _
    rw [jumps_zero m i n]
    unfold jump leap
    simp [Tn, Tm]
def Msk (m : Nat) : Prop := m = 7 ∨ m = 31 ∨ m = 127
def orb (m : Nat) : Nat → Nat → List Nat
  | 0, _ => []
  | n + 1, i => i :: orb m n (Tm m i)
theorem orb_at (m : Nat) : ∀ (n i e : Nat), e ∈ orb m n i → ∃ k, k < n ∧ Tn m i k = e
  | 0, _, _, h => by simp [orb] at h
  | n + 1, i, e, h => by
    rcases List.mem_cons.mp h with h | h
    · exact ⟨0, by omega, h.symm⟩
    · obtain ⟨k, hk, e⟩ := orb_at m n (Tm m i) e h
      exact ⟨k + 1, by omega, by rw [show k + 1 = 1 + k by omega, Tn_add]; exact e⟩
theorem orb7 : (List.range 8).all (fun e => (orb 7 8 0).contains e) = true := by decide +kernel
theorem orb31 : (List.range 32).all (fun e => (orb 31 32 0).contains e) = true := by decide +kernel
theorem orb127 : (List.range 128).all (fun e => (orb 127 128 0).contains e) = true := by decide +kernel
theorem per7 : Tn 7 0 8 = 0 := by decide +kernel
theorem per31 : Tn 31 0 32 = 0 := by decide +kernel
theorem per127 : Tn 127 0 128 = 0 := by decide +kernel
theorem orbit {m : Nat} (hm : Msk m) : (∀ e, e ≤ m → ∃ k, k ≤ m ∧ Tn m 0 k = e) ∧ Tn m 0 (m + 1) = 0 := by
  have go : ∀ n, (List.range (n + 1)).all (fun e => (orb n (n + 1) 0).contains e) = true → ∀ e, e ≤ n → ∃ k, k ≤ n ∧ Tn n 0 k = e := fun n h e he => by
    have := List.all_eq_true.mp h e (by simp; omega)
    obtain ⟨k, hk, e⟩ := orb_at n (n + 1) 0 e (by simpa using this)
    exact ⟨k, by omega, e⟩
  rcases hm with rfl | rfl | rfl
  · exact ⟨go 7 orb7, per7⟩
  · exact ⟨go 31 orb31, per31⟩
  · exact ⟨go 127 orb127, per127⟩
theorem covers {m : Nat} (hm : Msk m) {i e : Nat} (hi : i ≤ m) (he : e ≤ m) : ∃ k, k ≤ m ∧ Tn m i k = e := by
  obtain ⟨o, p⟩ := orbit hm
  obtain ⟨a, ha, rfl⟩ := o i hi
  obtain ⟨b, hb, rfl⟩ := o e he
  by_cases c : a ≤ b
  · exact ⟨b - a, by omega, by rw [← Tn_add]; congr 1; omega⟩
  · refine ⟨m + 1 - a + b, by omega, ?_⟩
    rw [← Tn_add, show a + (m + 1 - a + b) = m + 1 + b by omega, Tn_add, p]
theorem bits_lt (h : Int) : bits h < 2 ^ 64 := by unfold bits; omega
/-- from each state on every slot is met in time -/
theorem meets {m : Nat} (hm : Msk m) {p : Probe} (h9 : p.more ≤ 9) (hd : p.dummy = none) (hp : p.perturb < 2 ^ 64) {e : Nat} (he : e ≤ m) : ∃ n, n < 10 * turns m ∧ (nexts m p n).j = e := by
  have z : ∀ L, 13 ≤ L → (jumps m (p.i, p.perturb) L).2 = 0 := fun L hL => by
    rw [jumps_pert]
    apply Nat.div_eq_of_lt
    have h1 : (32 : Nat) ^ 13 ≤ 32 ^ L := Nat.pow_le_pow_right (by decide) hL
    have h2 : (2 : Nat) ^ 64 < 32 ^ 13 := by decide
    show p.perturb < _
    omega
  have j13 : (jumps m (p.i, p.perturb) 13).1 ≤ m := by
    show (leap m _ _).1 ≤ m
    unfold leap
    have := Nat.mod_lt ((jumps m (p.i, p.perturb) 12).1 * 5 + 1 + (jumps m (p.i, p.perturb) 12).2 / 32) (show 0 < m + 1 by omega)
    dsimp only
    omega
  obtain ⟨k, hk, ek⟩ := covers hm j13 he
  obtain ⟨n, hn, en⟩ := far m (12 + k) p h9 hd
  refine ⟨n, by unfold turns; omega, ?_⟩
  rw [en, show 12 + k + 1 = 13 + k by omega, jumps_add]
  have e13 : jumps m (p.i, p.perturb) 13 = ((jumps m (p.i, p.perturb) 13).1, 0) := Prod.ext rfl (z 13 (Nat.le_refl _))
  rw [e13, jumps_zero]
  exact ek
theorem pAt_ok (m : Nat) (h : Int) : ∀ n, (pAt m h n).more ≤ 9 ∧ (pAt m h n).perturb < 2 ^ 64
  | 0 => ⟨run_le m _, bits_lt h⟩
  | n + 1 => by
    obtain ⟨a, b⟩ := pAt_ok m h n
    show (pNext m (pAt m h n)).more ≤ 9 ∧ (pNext m (pAt m h n)).perturb < 2 ^ 64
    unfold pNext advance
    split
    · exact ⟨by show (pAt m h n).more - 1 ≤ 9; omega, b⟩
    · unfold leap
      dsimp only
      exact ⟨run_le _ _, by omega⟩
theorem meet {m : Nat} (hm : Msk m) (h : Int) (n0 : Nat) {e : Nat} (he : e ≤ m) : ∃ n1, n0 ≤ n1 ∧ n1 < n0 + 10 * turns m ∧ sl m h n1 = e := by
  obtain ⟨n, hn, e⟩ := meets hm (pAt_ok m h n0).1 (pAt_dummy m h n0) (pAt_ok m h n0).2 he
  exact ⟨n0 + n, by omega, by omega, by unfold sl; rw [pAt_nexts]; exact e⟩
/-! room, a new entry, a table laid anew -/
theorem pigeon : ∀ (k N : Nat) (f : Nat → Nat), (∀ j, j < N → ∃ i, i < k ∧ f i = j) → N ≤ k
  | 0, N, f, h => by
    rcases Nat.eq_zero_or_pos N with e | e
    · omega
    · obtain ⟨i, hi, _⟩ := h 0 e
      omega
  | k + 1, N, f, h => by
    by_cases c : f k < N
    · have := pigeon k (N - 1) (fun i => if f k < f i then f i - 1 else f i) fun j hj => by
        by_cases e : j < f k
        · obtain ⟨i, hi, ei⟩ := h j (by omega)
          refine ⟨i, ?_, ?_⟩
          · by_cases z : i = k
            · subst z; omega
            · omega
          · rw [if_neg (by omega)]
            exact ei
        · obtain ⟨i, hi, ei⟩ := h (j + 1) (by omega)
          refine ⟨i, ?_, ?_⟩
          · by_cases z : i = k
            · subst z; omega
            · omega
          · rw [if_pos (by omega)]
            omega
      omega
    · have := pigeon k N f fun j hj => by
        obtain ⟨i, hi, ei⟩ := h j hj
        refine ⟨i, ?_, ei⟩
        by_cases z : i = k
        · subst z; omega
        · omega
      omega
def hAt (es : Array (Int × Value)) (i : Nat) : Int := (es[i]?.map (·.1)).getD 0
structure Tb (t : SetTable) (es : Array (Int × Value)) : Prop where
  mask : Msk t.mask
  dum : t.dummies = #[]
  size : t.place.size = es.size
  ris : Ris t.place
  bnd : ∀ i, i < t.place.size → t.place.getD i 0 ≤ t.mask
  reach : ∀ i, i < es.size → ∃ n, sl t.mask (hAt es i) n = t.place.getD i 0 ∧ ∀ k, k < n → In t.place (sl t.mask (hAt es i) k)
theorem Tb.free {t : SetTable} {es : Array (Int × Value)} (b : Tb t es) (h : es.size ≤ t.mask) : ∃ e, e ≤ t.mask ∧ ¬ In t.place e := by
  refine Classical.byContradiction fun z => ?_
  have := pigeon t.place.size (t.mask + 1) (fun i => t.place.getD i 0) fun j hj => by
    rcases in_dec t.place j with c | c
    · exact c
    · exact absurd ⟨j, by omega, c⟩ z
  have := b.size
  omega
/-- a search from the n0-th slot on -/
theorem Tb.probe {t : SetTable} {es : Array (Int × Value)} (b : Tb t es) (hs : es.size ≤ t.mask) (hashAt : Nat → Int) (h : Int) (n0 : Nat) :
    ∃ n, n0 ≤ n ∧ (∀ k, n0 ≤ k → k < n → ∃ i, i < t.place.size ∧ t.place.getD i 0 = sl t.mask h k ∧ (hashAt i == h) = false) ∧
      ((¬ In t.place (sl t.mask h n) ∧ t.probe hashAt h (pAt t.mask h n0) = some (.empty (sl t.mask h n) none)) ∨
       ∃ i, i < t.place.size ∧ t.place.getD i 0 = sl t.mask h n ∧ (hashAt i == h) = true ∧ t.probe hashAt h (pAt t.mask h n0) = some (.candidate (sl t.mask h n) i (pAt t.mask h (n + 1)))) := by
  obtain ⟨e, he, hn⟩ := b.free hs
  obtain ⟨n1, h1, h2, h3⟩ := meet b.mask h n0 he
  exact probe_go b.ris b.dum hashAt h _ n0 ⟨n1, h1, h2, by rw [h3]; exact hn⟩
theorem ins_at {α : Type} {xs : Array α} {p : Nat} (hp : p ≤ xs.size) (x : α) (i : Nat) : (insertAt xs p x)[i]? = if i < p then xs[i]? else if i = p then some x else xs[i - 1]? := by
  unfold insertAt
  have s1 : (xs.extract 0 p).size = p := by simp; omega
  have s2 : ((xs.extract 0 p).push x).size = p + 1 := by simp; omega
  by_cases h1 : i < p
  · rw [if_pos h1, Array.getElem?_append_left (by rw [s2]; omega), Array.getElem?_push, if_neg (by rw [s1]; omega)]
    simp [Array.getElem?_extract]
    omega
  · rw [if_neg h1]
    by_cases h2 : i = p
    · rw [if_pos h2, Array.getElem?_append_left (by rw [s2]; omega), Array.getElem?_push, if_pos (by rw [s1]; exact h2)]
    · rw [if_neg h2, Array.getElem?_append_right (by rw [s2]; omega), s2]
      simp only [Array.getElem?_extract]
      by_cases h3 : i - (p + 1) < xs.size - p
      · rw [if_pos (by omega)]
        congr 1
        omega
      · rw [if_neg (by omega)]
        symm
        rw [Array.getElem?_eq_none_iff]
        omega
theorem ins_size {α : Type} {xs : Array α} {p : Nat} (hp : p ≤ xs.size) (x : α) : (insertAt xs p x).size = xs.size + 1 := by
  unfold insertAt
  simp
  omega
theorem getD_get (xs : Array Nat) (i : Nat) : xs.getD i 0 = (xs[i]?).getD 0 := by
  by_cases h : i < xs.size <;> simp [Array.getD, h]
theorem ins_getD {xs : Array Nat} {p : Nat} (hp : p ≤ xs.size) (x i : Nat) : (insertAt xs p x).getD i 0 = if i < p then xs.getD i 0 else if i = p then x else xs.getD (i - 1) 0 := by
  rw [getD_get, ins_at hp, getD_get, getD_get]
  split
  · rfl
  · split <;> rfl
theorem ins_in {xs : Array Nat} {p : Nat} (hp : p ≤ xs.size) (x j : Nat) : In (insertAt xs p x) j ↔ In xs j ∨ j = x := by
  constructor
  · rintro ⟨i, hi, e⟩
    rw [ins_size hp] at hi
    rw [ins_getD hp] at e
    by_cases h1 : i < p
    · rw [if_pos h1] at e
      exact .inl ⟨i, by omega, e⟩
    · rw [if_neg h1] at e
      by_cases h2 : i = p
      · rw [if_pos h2] at e
        exact .inr e.symm
      · rw [if_neg h2] at e
        exact .inl ⟨i - 1, by omega, e⟩
  · rintro (⟨i, hi, e⟩ | rfl)
    · by_cases h1 : i < p
      · exact ⟨i, by rw [ins_size hp]; omega, by rw [ins_getD hp, if_pos h1]; exact e⟩
      · exact ⟨i + 1, by rw [ins_size hp]; omega, by rw [ins_getD hp, if_neg (by omega), if_neg (by omega)]; exact e⟩
    · exact ⟨p, by rw [ins_size hp]; omega, by rw [ins_getD hp, if_neg (Nat.lt_irrefl _), if_pos rfl]⟩
theorem ins_ris {xs : Array Nat} (r : Ris xs) {j : Nat} (h : ¬ In xs j) : Ris (insertAt xs (below xs j) j) := by
  obtain ⟨a, b, c⟩ := below_at r j
  have c' : ∀ i, below xs j ≤ i → i < xs.size → j < xs.getD i 0 := fun i h1 h2 => by
    have := c i h1 h2
    have : xs.getD i 0 ≠ j := fun z => h ⟨i, h2, z⟩
    omega
  intro i k hik hk
  rw [ins_size a] at hk
  rw [ins_getD a, ins_getD a]
  by_cases h1 : k < below xs j
  · rw [if_pos h1, if_pos (by omega)]
    exact r i k hik (by omega)
  · rw [if_neg h1]
    by_cases h2 : k = below xs j
    · rw [if_pos h2, if_pos (by omega)]
      exact b i (by omega)
    · rw [if_neg h2]
      by_cases h3 : i < below xs j
      · rw [if_pos h3]
        exact Nat.lt_trans (b i h3) (c' (k - 1) (by omega) (by omega))
      · rw [if_neg h3]
        by_cases h4 : i = below xs j
        · rw [if_pos h4]
          exact c' (k - 1) (by omega) (by omega)
        · rw [if_neg h4]
          exact r (i - 1) (k - 1) (by omega) (by omega)
theorem put_eq (t : SetTable) (hd : t.dummies = #[]) (j : Nat) : t.put j = ({ t with place := insertAt t.place (below t.place j) j }, below t.place j) := by
  unfold put
  dsimp only
  rw [hd, has_nil]
  obtain ⟨a, b, c, d, e, f, g⟩ := t
  dsimp only at hd
  subst hd
  rfl
theorem Tb.add {t : SetTable} {es : Array (Int × Value)} (b : Tb t es) (h : Int) (x : Value) (n : Nat) (hn : ¬ In t.place (sl t.mask h n)) (hm : sl t.mask h n ≤ t.mask) (hk : ∀ k, k < n → In t.place (sl t.mask h k)) :
    Tb (t.put (sl t.mask h n)).1 (insertAt es (t.put (sl t.mask h n)).2 (h, x)) := by
  rw [put_eq t b.dum]
  obtain ⟨a1, a2, a3⟩ := below_at b.ris (sl t.mask h n)
  have a1' : below t.place (sl t.mask h n) ≤ es.size := by rw [← b.size]; exact a1
  refine ⟨b.mask, b.dum, ?_, ins_ris b.ris hn, ?_, ?_⟩
  · rw [ins_size a1, ins_size a1', b.size]
  · intro i hi
    dsimp only at hi ⊢
    rw [ins_size a1] at hi
    rw [ins_getD a1]
    split
    · exact b.bnd i (by omega)
    · split
      · exact hm
      · exact b.bnd (i - 1) (by omega)
  · intro i hi
    dsimp only at hi ⊢
    rw [ins_size a1'] at hi
    have sub : ∀ j, In t.place j → In (insertAt t.place (below t.place (sl t.mask h n)) (sl t.mask h n)) j := fun j hj => (ins_in a1 _ j).mpr (.inl hj)
    have eh : hAt (insertAt es (below t.place (sl t.mask h n)) (h, x)) i = if i < below t.place (sl t.mask h n) then hAt es i else if i = below t.place (sl t.mask h n) then h else hAt es (i - 1) := by
      unfold hAt
      rw [ins_at a1']
      split
      · rfl
      · split <;> rfl
    rw [ins_getD a1, eh]
    by_cases h1 : i < below t.place (sl t.mask h n)
    · rw [if_pos h1, if_pos h1]
      obtain ⟨m, e, q⟩ := b.reach i (by omega)
      exact ⟨m, e, fun k hk => sub _ (q k hk)⟩
    · rw [if_neg h1, if_neg h1]
      by_cases h2 : i = below t.place (sl t.mask h n)
      · rw [if_pos h2, if_pos h2]
        exact ⟨n, rfl, fun k hk' => sub _ (hk k hk')⟩
      · rw [if_neg h2, if_neg h2]
        obtain ⟨m, e, q⟩ := b.reach (i - 1) (by omega)
        exact ⟨m, e, fun k hk => sub _ (q k hk)⟩
theorem run_bnd {m i : Nat} (h : i ≤ m) : i + (runEnd m i - i) ≤ m := by unfold runEnd; split <;> omega
theorem pAt_bnd (m : Nat) (h : Int) : ∀ n, (pAt m h n).j + (pAt m h n).more ≤ m
  | 0 => by
    have := Nat.mod_lt (bits h) (show 0 < m + 1 by omega)
    exact run_bnd (m := m) (i := bits h % (m + 1)) (by omega)
  | n + 1 => by
    have a := pAt_bnd m h n
    show (pNext m (pAt m h n)).j + (pNext m (pAt m h n)).more ≤ m
    unfold pNext advance
    split
    · show (pAt m h n).j + 1 + ((pAt m h n).more - 1) ≤ m
      omega
    · unfold leap
      dsimp only
      have := Nat.mod_lt ((pAt m h n).i * 5 + 1 + (pAt m h n).perturb / 32) (show 0 < m + 1 by omega)
      exact run_bnd (by omega)
theorem sl_le (m : Nat) (h : Int) (n : Nat) : sl m h n ≤ m := by
  have := pAt_bnd m h n
  unfold sl
  omega
/-! laid anew -/
abbrev Own := Array (Option Nat)
def Occ (o : Own) (j : Nat) : Prop := ∃ k, o[j]? = some (some k)
theorem run_slot (m : Nat) (q : Nat × Nat) : ∀ k, k ≤ runEnd m q.1 - q.1 → (nexts m (runAt m q) k).j = q.1 + k ∧ (nexts m (runAt m q) k).more = runEnd m q.1 - q.1 - k
  | 0, _ => ⟨rfl, rfl⟩
  | k + 1, h => by
    obtain ⟨a, b⟩ := run_slot m q k (by omega)
    show (pNext m (nexts m (runAt m q) k)).j = _ ∧ (pNext m (nexts m (runAt m q) k)).more = _
    unfold pNext advance
    rw [if_pos (by omega)]
    dsimp only
    rw [a, b]
    exact ⟨by omega, by omega⟩
theorem find_range {p : Nat → Bool} : ∀ (n : Nat), ((List.range n).find? p = none ∧ ∀ i, i < n → p i = false) ∨ ∃ k, k < n ∧ (List.range n).find? p = some k ∧ p k = true ∧ ∀ i, i < k → p i = false
  | 0 => .inl ⟨rfl, fun i h => absurd h (by omega)⟩
  | n + 1 => by
    rw [List.range_succ, List.find?_append]
    rcases find_range (p := p) n with ⟨a, b⟩ | ⟨k, h1, h2, h3, h4⟩
    · rw [a]
      cases c : p n with
      | true => exact .inr ⟨n, by omega, by simp [c], c, b⟩
      | false =>
        refine .inl ⟨by simp [c], fun i hi => ?_⟩
        by_cases e : i = n
        · rw [e]; exact c
        · exact b i (by omega)
    · rw [h2]
      exact .inr ⟨k, by omega, rfl, h3, h4⟩
theorem free_at {m : Nat} {o : Own} (hs : o.size = m + 1) (h : Int) : ∀ (f : Nat) (q : Nat × Nat) (n : Nat), q.1 ≤ m → pAt m h n = runAt m q → (∀ k, k < n → Occ o (sl m h k)) → (∃ L, L < f ∧ ¬ Occ o (jumps m q L).1) →
    ∃ n', layClean.free m o f q.1 q.2 = some (sl m h n') ∧ ¬ Occ o (sl m h n') ∧ ∀ k, k < n' → Occ o (sl m h k)
  | 0, q, n, hq, hp, ho, ⟨L, hL, _⟩ => absurd hL (by omega)
  | f + 1, q, n, hq, hp, ho, ⟨L, hL, hf⟩ => by
    unfold layClean.free
    have run : ∀ k, k < runEnd m q.1 + 1 - q.1 → sl m h (n + k) = q.1 + k := fun k hk => by
      unfold sl
      rw [pAt_nexts, hp]
      exact (run_slot m q k (by omega)).1
    have rb := run_bnd hq
    have rl : q.1 ≤ runEnd m q.1 := by unfold runEnd; split <;> omega
    have no : ∀ j, j ≤ m → (((o.getD j (some 0)).isNone = false → Occ o j) ∧ ((o.getD j (some 0)).isNone = true → ¬ Occ o j)) := fun j hj => by
      have hj' : j < o.size := by omega
      have e : o[j]? = some (o.getD j (some 0)) := by simp [Array.getD, hj']
      constructor
      · intro z
        cases c : o.getD j (some 0) with
        | none => rw [c] at z; cases z
        | some k => exact ⟨k, by rw [e, c]⟩
      · rintro z ⟨k, hk⟩
        rw [e] at hk
        rw [Option.some.inj hk] at z
        cases z
    rcases find_range (p := fun k => (o.getD (q.1 + k) (some 0)).isNone) (runEnd m q.1 + 1 - q.1) with ⟨a, b⟩ | ⟨k, h1, h2, h3, h4⟩
    · rw [a]
      dsimp only
      have all : ∀ k, k < n + (runEnd m q.1 - q.1 + 1) → Occ o (sl m h k) := fun k hk => by
        by_cases c : k < n
        · exact ho k c
        · have e : k = n + (k - n) := by omega
          rw [e, run (k - n) (by omega)]
          exact (no _ (by omega)).1 (b (k - n) (by omega))
      have hj : (jump m q).1 ≤ m := by
        show (leap m _ _).1 ≤ m
        unfold leap
        have := Nat.mod_lt (q.1 * 5 + 1 + q.2 / 32) (show 0 < m + 1 by omega)
        dsimp only
        omega
      have hp' : pAt m h (n + (runEnd m q.1 - q.1 + 1)) = runAt m (jump m q) := by
        rw [pAt_nexts, hp]
        exact run_out m _ (runAt m q) rfl rfl
      have hL0 : L ≠ 0 := by
        rintro rfl
        apply hf
        have := (no q.1 hq).1 (b 0 (by unfold runEnd; split <;> omega))
        exact this
      obtain ⟨L', rfl⟩ : ∃ L', L = L' + 1 := ⟨L - 1, by omega⟩
      exact free_at hs h f (jump m q) _ hj hp' all ⟨L', by omega, by
        rw [show L' + 1 = 1 + L' by omega, jumps_add] at hf
        exact hf⟩
    · rw [h2]
      dsimp only
      refine ⟨n + k, by rw [run k h1], ?_, fun k' hk' => ?_⟩
      · rw [run k h1]
        exact (no _ (by omega)).2 h3
      · by_cases c : k' < n
        · exact ho k' c
        · have e : k' = n + (k' - n) := by omega
          rw [e, run (k' - n) (by omega)]
          exact (no _ (by omega)).1 (h4 (k' - n) (by omega))
theorem meetsJ {m : Nat} (hm : Msk m) (q : Nat × Nat) (hp : q.2 < 2 ^ 64) {e : Nat} (he : e ≤ m) : ∃ L, L < turns m ∧ (jumps m q L).1 = e := by
  have z : (jumps m q 13).2 = 0 := by
    rw [jumps_pert]
    apply Nat.div_eq_of_lt
    have h2 : (2 : Nat) ^ 64 < 32 ^ 13 := by decide
    omega
  have j13 : (jumps m q 13).1 ≤ m := by
    show (leap m _ _).1 ≤ m
    unfold leap
    have := Nat.mod_lt ((jumps m q 12).1 * 5 + 1 + (jumps m q 12).2 / 32) (show 0 < m + 1 by omega)
    dsimp only
    omega
  obtain ⟨k, hk, ek⟩ := covers hm j13 he
  refine ⟨13 + k, by unfold turns; omega, ?_⟩
  rw [jumps_add]
  have e13 : jumps m q 13 = ((jumps m q 13).1, 0) := Prod.ext rfl z
  rw [e13, jumps_zero]
  exact ek
/-- where the first entries lie -/
structure Lay (m : Nat) (hs : List Int) (o : Own) (ss : Nat → Nat) : Prop where
  size : o.size = m + 1
  at_ : ∀ i, i < hs.length → ss i ≤ m ∧ o[ss i]? = some (some i)
  of_ : ∀ j k, o[j]? = some (some k) → k < hs.length ∧ ss k = j
  reach : ∀ (i : Nat) h, hs[i]? = some h → ∃ n, sl m h n = ss i ∧ ∀ k, k < n → Occ o (sl m h k)
theorem Lay.step {m : Nat} (hm : Msk m) {hs : List Int} {o : Own} {ss : Nat → Nat} (l : Lay m hs o ss) (h : Int) (hl : hs.length ≤ m) :
    ∃ j, layClean.free m o (turns m) (bits h % (m + 1)) (bits h) = some j ∧ ∃ ss', Lay m (hs ++ [h]) (o.setIfInBounds j (some hs.length)) ss' := by
  obtain ⟨e, he, hne⟩ : ∃ e, e ≤ m ∧ ¬ Occ o e := by
    refine Classical.byContradiction fun z => ?_
    have := pigeon hs.length (m + 1) ss fun j hj => by
      rcases Classical.em (Occ o j) with ⟨k, hk⟩ | c
      · exact ⟨k, (l.of_ j k hk).1, (l.of_ j k hk).2⟩
      · exact absurd ⟨j, by omega, c⟩ z
    omega
  obtain ⟨L, hL, eL⟩ := meetsJ hm (bits h % (m + 1), bits h) (bits_lt h) he
  have i0 := Nat.mod_lt (bits h) (show 0 < m + 1 by omega)
  obtain ⟨n, e1, e2, e3⟩ := free_at l.size h (turns m) (bits h % (m + 1), bits h) 0 (by omega) rfl (fun k hk => absurd hk (by omega)) ⟨L, hL, by rw [eL]; exact hne⟩
  have jm := sl_le m h n
  have js : sl m h n < o.size := by rw [l.size]; omega
  refine ⟨sl m h n, e1, fun i => if i = hs.length then sl m h n else ss i, ?_⟩
  have set_ : ∀ j, (o.setIfInBounds (sl m h n) (some hs.length))[j]? = if j = sl m h n then some (some hs.length) else o[j]? := fun j => by
    rw [Array.getElem?_setIfInBounds]
    by_cases c : sl m h n = j
    · rw [if_pos c, if_pos c.symm]
      simp [← c, js]
    · rw [if_neg c, if_neg fun z => c z.symm]
  have sub : ∀ j, Occ o j → Occ (o.setIfInBounds (sl m h n) (some hs.length)) j := fun j ⟨k, hk⟩ => by
    refine ⟨k, ?_⟩
    rw [set_, if_neg]
    · exact hk
    · rintro rfl
      exact e2 ⟨k, hk⟩
  refine ⟨by rw [Array.size_setIfInBounds]; exact l.size, fun i hi => ?_, fun j k hk => ?_, fun i h' hh' => ?_⟩
  · rw [List.length_append, List.length_singleton] at hi
    by_cases c : i = hs.length
    · rw [if_pos c, set_, if_pos rfl, c]
      exact ⟨jm, rfl⟩
    · rw [if_neg c, set_]
      obtain ⟨a, b⟩ := l.at_ i (by omega)
      refine ⟨a, ?_⟩
      rw [if_neg]
      · exact b
      · intro z
        rw [z] at b
        exact e2 ⟨i, b⟩
  · rw [set_] at hk
    rw [List.length_append, List.length_singleton]
    by_cases c : j = sl m h n
    · rw [if_pos c] at hk
      cases hk
      exact ⟨by omega, by rw [if_pos rfl]; exact c.symm⟩
    · rw [if_neg c] at hk
      obtain ⟨a, b⟩ := l.of_ j k hk
      exact ⟨by omega, by rw [if_neg (by omega)]; exact b⟩
  · by_cases c : i < hs.length
    · rw [List.getElem?_append_left c] at hh'
      obtain ⟨n', a, b⟩ := l.reach i h' hh'
      rw [if_neg (by omega)]
      exact ⟨n', a, fun k hk => sub _ (b k hk)⟩
    · have hlt := (List.getElem?_eq_some_iff.mp hh').1
      rw [List.length_append, List.length_singleton] at hlt
      obtain rfl : i = hs.length := by omega
      rw [List.getElem?_append_right (Nat.le_refl _), Nat.sub_self] at hh'
      cases hh'
      rw [if_pos rfl]
      exact ⟨n, rfl, fun k hk => sub _ (e3 k hk)⟩
def layStep (m : Nat) (acc : Option (Own × Nat)) (h : Int) : Option (Own × Nat) := do
  let (owner, k) ← acc
  let j ← layClean.free m owner (turns m) (bits h % (m + 1)) (bits h)
  pure (owner.setIfInBounds j (some k), k + 1)
theorem lay_fold {m : Nat} (hm : Msk m) : ∀ (more hs : List Int) (o : Own) (ss : Nat → Nat), Lay m hs o ss → hs.length + more.length ≤ m + 1 →
    ∃ o' ss', more.foldl (layStep m) (some (o, hs.length)) = some (o', (hs ++ more).length) ∧ Lay m (hs ++ more) o' ss'
  | [], hs, o, ss, l, _ => ⟨o, ss, by simp, by simpa using l⟩
  | h :: more, hs, o, ss, l, hl => by
    rw [List.length_cons] at hl
    obtain ⟨j, e, ss', l'⟩ := l.step hm h (by omega)
    obtain ⟨o', ss2, e2, l2⟩ := lay_fold hm more (hs ++ [h]) _ ss' l' (by rw [List.length_append, List.length_singleton]; omega)
    rw [List.append_assoc, List.singleton_append] at e2 l2
    refine ⟨o', ss2, ?_, l2⟩
    rw [List.foldl_cons]
    have es : layStep m (some (o, hs.length)) h = some (o.setIfInBounds j (some hs.length), (hs ++ [h]).length) := by
      unfold layStep
      simp only [Option.bind_eq_bind, Option.bind_some, e]
      simp
    rw [es]
    exact e2
theorem lay_clean {m : Nat} (hm : Msk m) (hs : Array Int) (hl : hs.size ≤ m + 1) : ∃ o ss, layClean m hs = some o ∧ Lay m hs.toList o ss := by
  have l0 : Lay m [] (Array.replicate (m + 1) none) (fun _ => 0) := ⟨by simp, fun i hi => absurd hi (by simp), fun j k hk => (by
    rw [Array.getElem?_replicate] at hk
    split at hk <;> cases hk), fun i h e => by simp at e⟩
  obtain ⟨o, ss, e, l⟩ := lay_fold hm hs.toList [] _ _ l0 (by simpa using hl)
  refine ⟨o, ss, ?_, by simpa using l⟩
  unfold layClean
  have : hs.foldl (init := some (Array.replicate (m + 1) none, 0)) (layStep m) = some (o, ([] ++ hs.toList).length) := by
    rw [← Array.foldl_toList]
    exact e
  have e2 : (hs.foldl (init := some (Array.replicate (m + 1) none, 0)) fun acc h => do
    let (owner, k) ← acc
    let j ← layClean.free m owner (turns m) (bits h % (m + 1)) (bits h)
    pure (owner.setIfInBounds j (some k), k + 1)) = hs.foldl (init := some (Array.replicate (m + 1) none, 0)) (layStep m) := rfl
  rw [e2, this]
  rfl
def liveL (m : Nat) (o : Own) : List (Nat × Nat) := (List.range (m + 1)).filterMap fun j => (o.getD j none).map (j, ·)
theorem live_mem {m : Nat} {o : Own} (hs : o.size = m + 1) (j k : Nat) : (j, k) ∈ liveL m o ↔ o[j]? = some (some k) := by
  unfold liveL
  rw [List.mem_filterMap]
  constructor
  · rintro ⟨a, ha, e⟩
    obtain ⟨k', e1, e2⟩ := Option.map_eq_some_iff.mp e
    cases e2
    have hj : j < o.size := by rw [hs]; simpa using ha
    have e : o[j]? = some (o.getD j none) := by simp [Array.getD, hj]
    rw [e, e1]
  · intro e
    obtain ⟨hj, e2⟩ := Array.getElem?_eq_some_iff.mp e
    refine ⟨j, by simpa [hs] using hj, ?_⟩
    have : o.getD j none = some k := by simp [Array.getD, hj, e2]
    rw [this]
    rfl
theorem live_up (m : Nat) (o : Own) : (liveL m o).Pairwise fun a b => a.1 < b.1 := by
  unfold liveL
  rw [List.pairwise_filterMap]
  refine List.Pairwise.imp ?_ (List.pairwise_lt_range (n := m + 1))
  intro a b hab x hx y hy
  obtain ⟨_, _, e1⟩ := Option.map_eq_some_iff.mp hx
  obtain ⟨_, _, e2⟩ := Option.map_eq_some_iff.mp hy
  rw [← e1, ← e2]
  exact hab
structure Laid (m : Nat) (hs : Array Int) (pl od : Array Nat) : Prop where
  ps : pl.size = hs.size
  os : od.size = hs.size
  ris : Ris pl
  bnd : ∀ i, i < pl.size → pl.getD i 0 ≤ m
  lt : ∀ i, i < hs.size → od.getD i 0 < hs.size
  inj : ∀ i j, i < hs.size → j < hs.size → od.getD i 0 = od.getD j 0 → i = j
  sur : ∀ k, k < hs.size → ∃ i, i < hs.size ∧ od.getD i 0 = k
  reach : ∀ i, i < hs.size → ∃ n, sl m (hs.getD (od.getD i 0) 0) n = pl.getD i 0 ∧ ∀ k, k < n → In pl (sl m (hs.getD (od.getD i 0) 0) k)
theorem laid_ok {m : Nat} (hm : Msk m) (fg mv : Nat) (led plain : Bool) (hs : Array Int) (hl : hs.size ≤ m + 1) :
    ∃ pl od, laid m fg mv led plain hs = some ({ mask := m, place := pl, dummies := #[], finger := fg, led := led, moves := mv, plain := plain }, od) ∧ Laid m hs pl od := by
  obtain ⟨o, ss, e, l⟩ := lay_clean hm hs hl
  have ln : hs.toList.length = hs.size := Array.length_toList
  refine ⟨((liveL m o).map (·.1)).toArray, ((liveL m o).map (·.2)).toArray, ?_, ?_⟩
  · unfold laid
    rw [e]
    rfl
  have at_ : ∀ i (h : i < (liveL m o).length), ((liveL m o).map (·.1)).toArray.getD i 0 = (liveL m o)[i].1 ∧ ((liveL m o).map (·.2)).toArray.getD i 0 = (liveL m o)[i].2 ∧ o[(liveL m o)[i].1]? = some (some (liveL m o)[i].2) := fun i h => by
    refine ⟨by simp [Array.getD, h], by simp [Array.getD, h], (live_mem l.size _ _).mp ?_⟩
    exact List.getElem_mem h
  have ris : Ris ((liveL m o).map (·.1)).toArray := fun i j hij hj => by
    have hj' : j < (liveL m o).length := by simpa using hj
    rw [(at_ i (by omega)).1, (at_ j hj').1]
    exact List.pairwise_iff_getElem.mp (live_up m o) i j (by omega) hj' hij
  have sur : ∀ k, k < hs.size → ∃ i, ∃ h : i < (liveL m o).length, (liveL m o)[i].2 = k ∧ (liveL m o)[i].1 = ss k := fun k hk => by
    have := (live_mem l.size (ss k) k).mpr (l.at_ k (by rw [ln]; exact hk)).2
    obtain ⟨i, hi, e⟩ := List.mem_iff_getElem.mp this
    exact ⟨i, hi, by rw [e], by rw [e]⟩
  have size : (liveL m o).length = hs.size := by
    have h1 := pigeon (liveL m o).length hs.size (fun i => ((liveL m o).map (·.2)).toArray.getD i 0) fun k hk => by
      obtain ⟨i, hi, e, _⟩ := sur k hk
      exact ⟨i, hi, by rw [(at_ i hi).2.1, e]⟩
    have h2 := pigeon hs.size (liveL m o).length (fun k => below ((liveL m o).map (·.1)).toArray (ss k)) fun i hi => by
      obtain ⟨a1, a2, a3⟩ := at_ i hi
      obtain ⟨b1, b2⟩ := l.of_ _ _ a3
      refine ⟨(liveL m o)[i].2, by omega, ?_⟩
      rw [b2, ← a1]
      exact below_in ris (by simpa using hi)
    omega
  have inOcc : ∀ j, Occ o j → In ((liveL m o).map (·.1)).toArray j := fun j ⟨k, hk⟩ => by
    obtain ⟨i, hi, e⟩ := List.mem_iff_getElem.mp ((live_mem l.size j k).mpr hk)
    exact ⟨i, by simpa using hi, by rw [(at_ i hi).1, e]⟩
  refine ⟨by simpa using size, by simpa using size, ris, fun i hi => ?_, fun i hi => ?_, fun i j hi hj e => ?_, fun k hk => ?_, fun i hi => ?_⟩
  · have hi' : i < (liveL m o).length := by simpa using hi
    obtain ⟨a1, a2, a3⟩ := at_ i hi'
    rw [a1]
    have := (Array.getElem?_eq_some_iff.mp a3).1
    have := l.size
    omega
  · obtain ⟨a1, a2, a3⟩ := at_ i (by omega)
    rw [a2]
    have := (l.of_ _ _ a3).1
    omega
  · obtain ⟨a1, a2, a3⟩ := at_ i (by omega)
    obtain ⟨b1, b2, b3⟩ := at_ j (by omega)
    rw [a2, b2] at e
    have e1 := (l.of_ _ _ a3).2
    have e2 := (l.of_ _ _ b3).2
    rw [e, e2] at e1
    by_cases c : i < j
    · have := ris i j c (by simp; omega)
      omega
    · by_cases c2 : j < i
      · have := ris j i c2 (by simp; omega)
        omega
      · omega
  · obtain ⟨i, hi, e, _⟩ := sur k hk
    exact ⟨i, by omega, by rw [(at_ i hi).2.1, e]⟩
  · obtain ⟨a1, a2, a3⟩ := at_ i (by omega)
    obtain ⟨b1, b2⟩ := l.of_ _ _ a3
    have hk : (liveL m o)[i].2 < hs.size := by omega
    have eh : hs.toList[(liveL m o)[i].2]? = some (hs.getD (liveL m o)[i].2 0) := by simp [Array.getD, hk]
    obtain ⟨n, e, q⟩ := l.reach _ _ eh
    rw [a1, a2]
    exact ⟨n, by rw [e, b2], fun k hk => inOcc _ (q k hk)⟩
theorem fm_map {α β : Type} {f : α → Option β} {g : α → β} : ∀ (l : List α), (∀ a ∈ l, f a = some (g a)) → l.filterMap f = l.map g
  | [], _ => rfl
  | a :: l, h => by
    rw [List.filterMap_cons_some (h a (by simp)), List.map_cons, fm_map l fun b hb => h b (by simp [hb])]
theorem above20 : sizeAbove 20 = 32 := by decide
theorem above76 : sizeAbove 76 = 128 := by decide
/-- the table that is laid anew when it is too full -/
theorem Tb.again {t : SetTable} {es : Array (Int × Value)} (hm : (t.mask = 7 ∧ es.size = 5) ∨ (t.mask = 31 ∧ es.size = 19)) :
    ∃ pl od, t.relaid (es.map (·.1)) (grown es.size) = some ({ mask := sizeAbove (grown es.size) - 1, place := pl, dummies := #[], finger := t.finger, led := t.led, moves := t.movedTo (sizeAbove (grown es.size) - 1), plain := t.plain }, od) ∧
      Tb { mask := sizeAbove (grown es.size) - 1, place := pl, dummies := #[], finger := t.finger, led := t.led, moves := t.movedTo (sizeAbove (grown es.size) - 1), plain := t.plain } (od.filterMap (es[·]?)) ∧
      (od.filterMap (es[·]?)).size = es.size ∧ (∀ i, i < es.size → ∃ k, k < es.size ∧ (od.filterMap (es[·]?))[i]? = es[k]? ∧ k = od.getD i 0) ∧
      (∀ i j, i < es.size → j < es.size → od.getD i 0 = od.getD j 0 → i = j) ∧ (∀ k, k < es.size → ∃ i, i < es.size ∧ od.getD i 0 = k) ∧
      es.size * 5 < (sizeAbove (grown es.size) - 1) * 3 ∧ sizeAbove (grown es.size) ≤ sizeLine := by
  have hM : Msk (sizeAbove (grown es.size) - 1) ∧ es.size ≤ sizeAbove (grown es.size) - 1 + 1 ∧ es.size * 5 < (sizeAbove (grown es.size) - 1) * 3 ∧ sizeAbove (grown es.size) ≤ sizeLine := by
    rcases hm with ⟨_, e⟩ | ⟨_, e⟩
    · rw [e, show grown 5 = 20 from rfl, above20]
      exact ⟨.inr (.inl rfl), by decide, by decide, by decide⟩
    · rw [e, show grown 19 = 76 from rfl, above76]
      exact ⟨.inr (.inr rfl), by decide, by decide, by decide⟩
  have sz : (es.map (·.1)).size = es.size := Array.size_map
  obtain ⟨pl, od, e, L⟩ := laid_ok hM.1 t.finger (t.movedTo (sizeAbove (grown es.size) - 1)) t.led t.plain (es.map (·.1)) (by rw [sz]; exact hM.2.1)
  have odlt : ∀ i, i < es.size → od.getD i 0 < es.size := fun i hi => by have := L.lt i (by rw [sz]; exact hi); rw [sz] at this; exact this
  have ods : od.size = es.size := by rw [L.os, sz]
  have fm : od.filterMap (es[·]?) = od.map fun k => es.getD k (0, .none) := by
    apply Array.toList_inj.mp
    rw [Array.toList_filterMap, Array.toList_map]
    refine fm_map _ fun k hk => ?_
    obtain ⟨i, hi, ei⟩ := List.mem_iff_getElem.mp hk
    have hi' : i < od.size := by simpa using hi
    have : k < es.size := by
      have := odlt i (by omega)
      simp only [Array.getD, hi', dite_true] at this
      simp only [Array.getElem_toList] at ei
      rw [← ei]
      exact this
    simp [Array.getD, this]
  have fs : (od.filterMap (es[·]?)).size = es.size := by rw [fm, Array.size_map, ods]
  have fat : ∀ i, i < es.size → (od.filterMap (es[·]?))[i]? = es[od.getD i 0]? := fun i hi => by
    have h2 := odlt i hi
    have hi' : i < od.size := by omega
    rw [fm, Array.getElem?_map]
    have e1 : od[i]? = some (od.getD i 0) := by simp [Array.getD, hi']
    rw [e1]
    simp only [Option.map_some]
    generalize od.getD i 0 = k at h2 ⊢
    simp [Array.getD, h2]
  refine ⟨pl, od, e, ⟨hM.1, rfl, by rw [fs]; show pl.size = _; rw [L.ps, sz], L.ris, L.bnd, fun i hi => ?_⟩, fs, fun i hi => ⟨od.getD i 0, odlt i hi, fat i hi, rfl⟩, fun i j hi hj => L.inj i j (by rw [sz]; exact hi) (by rw [sz]; exact hj), fun k hk => ?_, hM.2.2⟩
  · rw [fs] at hi
    obtain ⟨n, e1, e2⟩ := L.reach i (by rw [sz]; exact hi)
    have eh : (es.map (·.1)).getD (od.getD i 0) 0 = hAt (od.filterMap (es[·]?)) i := by
      unfold hAt
      rw [fat i hi]
      have h2 := odlt i hi
      generalize od.getD i 0 = k at h2 ⊢
      simp [Array.getD, h2]
    rw [eh] at e1 e2
    exact ⟨n, e1, e2⟩
  · obtain ⟨i, hi, ei⟩ := L.sur k (by rw [sz]; exact hk)
    exact ⟨i, by rw [sz] at hi; exact hi, ei⟩
end L2
/-! ### a set of tuples of ints: search and add -/
namespace L2
open PySem PySem.SetTable PySem.Spec PyProof.Rows
section
variable {prog : Program} {w : World} {A : Around} {E : Value → Shared → Prop} {s : Shared}
theorem items_cv {k : List Int} {vs : List Value} (h : ItemsAre (intKind prog w) k vs) : ∀ v ∈ vs, ∃ n t, v = .int n t := by
  induction h with
  | nil => intro v hv; simp at hv
  | @cons k v' ks vs h1 _ ih =>
    intro v hv
    rcases List.mem_cons.mp hv with rfl | hv
    · cases v with
      | int n t => exact ⟨n, t, rfl⟩
      | _ => exact absurd h1 (by simp [intKind, Value.isInt])
    · exact ih v hv
theorem ofClass_tup {k : List Int} {x : Addr} {Q : Bool → Shared → Prop} (hx : IsTupleKey (intKind prog w) s.heap k x) (h : Q false s) :
    wpAny (model prog w) A (ofAClassStatement 8 (.ref x)) Q E s := by
  have hT := hx.typeIs
  obtain ⟨o, items, n, ho, hc, hd, hi⟩ := hx
  unfold ofAClassStatement
  refine wpAny_bind (wpAny_typeOf hT ?_)
  show wpAny _ _ ((if ("tuple" == "tuple") = true then pure true else isSubtype (.type "tuple") (.type "tuple")) >>= _) _ _ s
  refine wpAny_bind (wpAny_pure ?_)
  simp only [Bool.not_true, Bool.false_eq_true, if_false]
  refine wpAny_bind (wpAny_seqItems ho hd ?_)
  refine wpAny_bind ?_
  show wpAny _ _ (forIn items _ _) _ _ s
  rw [← Array.forIn_toList]
  refine wpAny_forIn_list _ (fun rest r s' => r.1 = none ∧ s' = s ∧ ∀ v ∈ rest, ∃ n t, v = Value.int n t) _ ?_ ?_ _ _ ⟨rfl, rfl, items_cv hi⟩
  · rintro v rest r s' ⟨hr, rfl, hall⟩
    obtain ⟨n, t, rfl⟩ := hall v List.mem_cons_self
    refine wpAny_bind (wpAny_of_eq (show ofAClassStatement 7 (.int n t) = pure false from by unfold ofAClassStatement; rfl) (wpAny_pure ?_))
    simp only [Bool.false_eq_true, if_false]
    exact ⟨trivial, trivial, fun u hu' => hall u (List.mem_cons_of_mem _ hu')⟩
  · rintro ⟨r1, r2⟩ s' ⟨hr, rfl, _⟩
    simp only at hr
    subst hr
    exact wpAny_pure h
theorem seen_tup {k : List Int} {x : Addr} {Q : Bool → Shared → Prop} (hx : IsTupleKey (intKind prog w) s.heap k x) (ys : List Value)
    (hy : ∀ y ∈ ys, ∃ b j, y = .ref b ∧ IsTupleKey (intKind prog w) s.heap j b) (h : Q false s) :
    wpAny (model prog w) A (searchCouldBeSeen (.ref x) ys) Q E s := by
  unfold searchCouldBeSeen
  refine wpAny_bind ?_
  refine wpAny_forIn_list _ (fun rest r s' => r.1 = none ∧ s' = s ∧ ∀ v ∈ rest, ∃ b j, v = Value.ref b ∧ IsTupleKey (intKind prog w) s.heap j b) _ ?_ ?_ _ _ ⟨rfl, rfl, hy⟩
  · rintro v rest r s' ⟨hr, rfl, hall⟩
    obtain ⟨b, j, rfl, hj⟩ := hall v List.mem_cons_self
    have hall' : ∀ u ∈ rest, ∃ b j, u = Value.ref b ∧ IsTupleKey (intKind prog w) s'.heap j b := fun u hu' => hall u (List.mem_cons_of_mem _ hu')
    dsimp only
    split
    · exact wpAny_pure ⟨rfl, rfl, hall'⟩
    · refine wpAny_bind (wpAny_eqIsQuiet_tuple hx ?_)
      simp only [Bool.not_true, Bool.false_eq_true, if_false]
      refine wpAny_bind (wpAny_eqIsQuiet_tuple hj ?_)
      simp only [Bool.not_true, Bool.false_eq_true, if_false]
      refine wpAny_bind (ofClass_tup hx ?_)
      simp only [Bool.false_eq_true, if_false]
      refine wpAny_bind (ofClass_tup hj ?_)
      simp only [Bool.false_eq_true, if_false]
      exact wpAny_pure ⟨rfl, rfl, hall'⟩
  · rintro ⟨r1, r2⟩ s' ⟨hr, rfl, _⟩
    simp only at hr
    subst hr
    exact wpAny_pure h
/-- the entries of a set of tuples of ints -/
structure Ent (prog : Program) (w : World) (h : Heap) (es : Array (Int × Value)) : Prop where
  ent : ∀ i, i < es.size → ∃ k b, es[i]? = some (tupleKeyHash (intKind prog w) k, .ref b) ∧ IsTupleKey (intKind prog w) h k b
  dis : ∀ (i j : Nat) (k : List Int) (b c : Addr) (g g' : Int), es[i]? = some (g, Value.ref b) → es[j]? = some (g', Value.ref c) → IsTupleKey (intKind prog w) h k b → IsTupleKey (intKind prog w) h k c → i = j
/-- the key k is among the entries -/
def HasK (prog : Program) (w : World) (h : Heap) (es : Array (Int × Value)) (k : List Int) : Prop := ∃ (i : Nat) (b : Addr), es[i]? = some (tupleKeyHash (intKind prog w) k, .ref b) ∧ IsTupleKey (intKind prog w) h k b
theorem search_eq (a : Addr) (x : Value) (h : Int) (adding : Bool) (fuel : Nat) (stand : Option Probe) : setSearchFrom a x h adding (fuel + 1) stand = (do
    let (es, _, t) ← setState a
    if t.gaveWay then unsupported "set:on-a-table-that-gave-way"
    let some met := t.probe (hAt es) h (stand.getD (t.probeStart h)) | unsupported "internal:set-table-without-an-empty-slot"
    match met with
    | .empty j dummy =>
      match dummy with
      | none => return .free j false
      | some d =>
        if adding && t.slot d != .dummy then rule "set.search.the-dummy-was-taken"; return ← setSearchFrom a x h adding fuel none
        return .free d true
    | .candidate j i next =>
      if !t.led then
        if ← searchCouldBeSeen x ((es.filter (·.1 == h)).toList.map (·.2)) then unsupported "set:the-search-would-show-the-table"
      let some (_, y) := es[i]? | unsupported "internal:set-entry"
      let equal ← holding [y] (eqBool y x)
      let (es', _, t') ← setState a
      if adding && equal then return .there none
      let some same := t'.sameMemory t.moves t.mask | unsupported "set.changed-during-lookup:is-the-new-block-at-the-old-address"
      let still ← match (if same then t'.slot j else .empty) with
        | .live i' => match es'[i']? with
          | some (_, y') => do pure (if ← isSame y' y then some i' else none)
          | none => pure none
        | _ => pure none
      match still with
      | none => rule "set.search.anew"; setSearchFrom a x h adding fuel none
      | some i' => if equal then return .there (some i') else setSearchFrom a x h adding fuel (some next)) := rfl
theorem key_hash {h : Heap} {es : Array (Int × Value)} (e : Ent prog w h es) {i : Nat} (hi : i < es.size) {k : List Int} {b : Addr} {g : Int} (he : es[i]? = some (g, .ref b)) (hk : IsTupleKey (intKind prog w) h k b) :
    g = tupleKeyHash (intKind prog w) k := by
  obtain ⟨k', b', e', hk'⟩ := e.ent i hi
  rw [e'] at he
  simp only [Option.some.injEq, Prod.mk.injEq, Value.ref.injEq] at he
  obtain ⟨rfl, rfl⟩ := he
  rw [hk.inj hk']
theorem get_lt {α : Type} {xs : Array α} {i : Nat} {a : α} (h : xs[i]? = some a) : i < xs.size := by
  rcases Nat.lt_or_ge i xs.size with c | c
  · exact c
  · rw [Array.getElem?_eq_none c] at h; exact nomatch h
theorem tb_fits {es : Array (Int × Value)} {t : SetTable} (b : Tb t es) (hs : es.size ≤ t.mask) : t.fits es.size = true := by
  have h1 : t.fill ≤ t.mask := by
    unfold SetTable.fill
    rw [b.dum, b.size]
    exact hs
  unfold SetTable.fits
  rw [b.size, decide_eq_true h1]
  simp
theorem search_tup {a : Addr} {o : Obj} {es : Array (Int × Value)} {ep : Nat} {t : SetTable} (ho : s.heap.get? a = some o) (hd : o.data = .set es ep t) (b : Tb t es) (hs : es.size ≤ t.mask)
    (hu : A.units < cLine) (en : Ent prog w s.heap es) {k : List Int} {x : Addr} (hx : IsTupleKey (intKind prog w) s.heap k x) {Q : SetFound → Shared → Prop}
    (hT : HasK prog w s.heap es k → Q (.there none) s)
    (hF : ∀ n, ¬ In t.place (sl t.mask (tupleKeyHash (intKind prog w) k) n) → (∀ j, j < n → In t.place (sl t.mask (tupleKeyHash (intKind prog w) k) j)) → ¬ HasK prog w s.heap es k →
      Q (.free (sl t.mask (tupleKeyHash (intKind prog w) k) n) false) s) :
    ∀ (fuel n0 : Nat) (stand : Option Probe), (∃ N, n0 ≤ N ∧ N < n0 + fuel ∧ ¬ In t.place (sl t.mask (tupleKeyHash (intKind prog w) k) N)) →
      (∀ j, j < n0 → ∃ i, i < t.place.size ∧ t.place.getD i 0 = sl t.mask (tupleKeyHash (intKind prog w) k) j ∧ ∀ g c, es[i]? = some (g, Value.ref c) → ¬ IsTupleKey (intKind prog w) s.heap k c) →
      stand.getD (t.probeStart (tupleKeyHash (intKind prog w) k)) = pAt t.mask (tupleKeyHash (intKind prog w) k) n0 →
      wpAny (model prog w) A (setSearchFrom a (.ref x) (tupleKeyHash (intKind prog w) k) true fuel stand) Q E s
  | 0, n0, _, ⟨N, h1, h2, _⟩, _, _ => absurd h2 (by omega)
  | fuel + 1, n0, stand, ⟨N, h1, h2, h3⟩, hp, hst => by
    have hf : t.fits es.size = true := tb_fits b hs
    have hw : t.gaveWay = false := by
      unfold SetTable.gaveWay
      rcases b.mask with e | e | e <;> rw [e] <;> rfl
    rw [search_eq]
    refine wpAny_bind (wpAny_setState_of ho hd hf ?_)
    dsimp only
    rw [hw, hst]
    simp only [Bool.false_eq_true, if_false]
    obtain ⟨n, hn, hq, hr⟩ := b.probe hs (hAt es) (tupleKeyHash (intKind prog w) k) n0
    have hp' : ∀ j, j < n → ∃ i, i < t.place.size ∧ t.place.getD i 0 = sl t.mask (tupleKeyHash (intKind prog w) k) j ∧ ∀ g c, es[i]? = some (g, Value.ref c) → ¬ IsTupleKey (intKind prog w) s.heap k c := by
      intro j hj
      rcases Nat.lt_or_ge j n0 with c | c
      · exact hp j c
      · obtain ⟨i, hi, ei, eh⟩ := hq j c hj
        refine ⟨i, hi, ei, fun g c e hk => ?_⟩
        have := key_hash en (by rw [← b.size]; exact hi) e hk
        unfold hAt at eh
        rw [e] at eh
        simp [this] at eh
    rcases hr with ⟨r1, r2⟩ | ⟨i, hi, ei, eh, r2⟩
    · rw [r2]
      refine wpAny_pure (hF n r1 (fun j hj => ?_) fun ⟨i, c, e, hk⟩ => ?_)
      · obtain ⟨i, hi, ei, _⟩ := hp' j hj
        exact ⟨i, hi, ei⟩
      · have hil := get_lt e
        obtain ⟨m, em, hm⟩ := b.reach i hil
        have eha : hAt es i = tupleKeyHash (intKind prog w) k := by unfold hAt; rw [e]; rfl
        rw [eha] at em hm
        have hmn : m < n := by
          rcases Nat.lt_or_ge m n with c | c
          · exact c
          · exfalso
            rcases Nat.lt_or_ge n m with d | d
            · exact r1 (hm n d)
            · have : m = n := by omega
              subst this
              exact r1 ⟨i, by rw [b.size]; exact hil, em.symm⟩
        obtain ⟨i', hi', ei', hno⟩ := hp' m hmn
        have : i' = i := by
          rcases Nat.lt_trichotomy i' i with c | c | c
          · have := b.ris i' i c (by rw [b.size]; exact hil); omega
          · exact c
          · have := b.ris i i' c hi'; omega
        subst this
        exact hno _ _ e hk
    · rw [r2]
      dsimp only
      have hil : i < es.size := by rw [← b.size]; exact hi
      obtain ⟨k', y, ey, hy⟩ := en.ent i hil
      have hSeen : ∀ y ∈ (es.filter (fun e => e.1 == tupleKeyHash (intKind prog w) k)).toList.map (·.2), ∃ b j, y = Value.ref b ∧ IsTupleKey (intKind prog w) s.heap j b := by
        intro y hy
        obtain ⟨e, he, rfl⟩ := List.mem_map.mp hy
        have he' : e ∈ es := by
          have := Array.mem_toList_iff.mp he
          exact (Array.mem_filter.mp this).1
        obtain ⟨i, hi, ei⟩ := Array.mem_iff_getElem.mp he'
        obtain ⟨k', y, ey, hy'⟩ := en.ent i hi
        rw [Array.getElem?_eq_getElem hi, ei] at ey
        simp only [Option.some.injEq] at ey
        subst ey
        exact ⟨y, k', rfl, hy'⟩
      have goal2 : wpAny (model prog w) A (do
          let some (_, y) := es[i]? | unsupported "internal:set-entry"
          let equal ← holding [y] (eqBool y (.ref x))
          let (es', _, t') ← setState a
          if true && equal then return SetFound.there none
          let some same := t'.sameMemory t.moves t.mask | unsupported "set.changed-during-lookup:is-the-new-block-at-the-old-address"
          let still ← match (if same then t'.slot (sl t.mask (tupleKeyHash (intKind prog w) k) n) else .empty) with
            | .live i' => match es'[i']? with
              | some (_, y') => do pure (if ← isSame y' y then some i' else none)
              | none => pure none
            | _ => pure none
          match still with
          | none => rule "set.search.anew"; setSearchFrom a (.ref x) (tupleKeyHash (intKind prog w) k) true fuel none
          | some i' => if equal then return SetFound.there (some i') else setSearchFrom a (.ref x) (tupleKeyHash (intKind prog w) k) true fuel (some (pAt t.mask (tupleKeyHash (intKind prog w) k) (n + 1)))) Q E s := by
        rw [ey]
        dsimp only
        refine wpAny_bind (wpAny_holding (wpAny_eqBool_tuple hu hy hx ?_))
        refine wpAny_bind (wpAny_setState_of ho hd hf ?_)
        dsimp only
        by_cases hkk : k' = k
        · subst hkk
          rw [decide_eq_true rfl]
          simp only [Bool.true_and, if_true]
          exact wpAny_pure (hT ⟨i, y, ey, hy⟩)
        · rw [decide_eq_false hkk]
          simp only [Bool.and_false, Bool.false_eq_true, if_false]
          have hsm : t.sameMemory t.moves t.mask = some true := by unfold SetTable.sameMemory; simp
          rw [hsm]
          dsimp only
          rw [if_pos rfl, ← ei, slot_live b.ris hi]
          dsimp only
          rw [ey]
          dsimp only
          refine wpAny_bind ?_
          refine wpAny_isSame_ref_self ?_
          simp only [if_true]
          refine search_tup ho hd b hs hu en hx hT hF fuel (n + 1) _ ⟨N, ?_, by omega, h3⟩ ?_ rfl
          · have : n ≠ N := fun e => h3 (by rw [← e]; exact ⟨i, hi, ei⟩)
            have : ¬ N < n := fun c => by
              obtain ⟨i', hi', ei', _⟩ := hp' N c
              exact h3 ⟨i', hi', ei'⟩
            omega
          · intro j hj
            rcases Nat.lt_or_ge j n with c | c
            · exact hp' j c
            · have : j = n := by omega
              subst this
              refine ⟨i, hi, ei, fun g c e hk => hkk ?_⟩
              rw [ey] at e
              simp only [Option.some.injEq, Prod.mk.injEq, Value.ref.injEq] at e
              obtain ⟨_, rfl⟩ := e
              exact hy.inj hk
      cases hl : t.led with
      | true => simpa only [Bool.not_true, Bool.false_eq_true, if_false] using goal2
      | false =>
        simp only [Bool.not_false, if_true]
        refine wpAny_bind (seen_tup hx _ hSeen ?_)
        simp only [Bool.false_eq_true, if_false]
        exact goal2
/-- a set at S whose table keeps es -/
def SetT (h : Heap) (S : Addr) (led : Bool) (es : Array (Int × Value)) : Prop :=
  ∃ ep t, h.get? S = some { cls := .type "set", dict := none, data := .set es ep t } ∧ Tb t es ∧ t.led = led ∧ t.plain = true ∧ es.size * 5 < t.mask * 3
theorem SetOf_get {h : Heap} {a : Addr} {es : Array (Int × Value)} {ep : Nat} {t : SetTable} (ho : h.get? a = some { cls := .type "set", dict := none, data := .set es ep t }) (es' : Array (Int × Value)) (t' : SetTable) :
    (h.update a (Obj.putSet es' t')).get? a = some { cls := .type "set", dict := none, data := .set es' (ep + 1) t' } := by
  have := Heap.get?_update_self (Obj.putSet es' t') ho (by rw [putSet_of es' t' rfl]; rfl)
  rw [putSet_of es' t' rfl] at this; exact this
theorem key_eq {h h' : Heap} {S : Addr} {o o' : Obj} {es es' : Array (Int × Value)} {ep ep' : Nat} {t t' : SetTable} (q : Heap.SameBut S h h') (e : h.get? S = some o) (hd : o.data = .set es ep t)
    (e' : h'.get? S = some o') (hd' : o'.data = .set es' ep' t') (k : List Int) (x : Addr) :
    IsTupleKey (intKind prog w) h k x ↔ IsTupleKey (intKind prog w) h' k x := by
  constructor
  · rintro ⟨o, items, n, ho, hc, hdd, hi⟩
    refine ⟨o, items, n, (q.2 x fun z => ?_).trans ho, hc, hdd, hi⟩
    subst z
    rw [ho, Option.some.injEq] at e; subst e; rw [hd] at hdd; exact nomatch hdd
  · rintro ⟨o, items, n, ho, hc, hdd, hi⟩
    refine ⟨o, items, n, (q.2 x fun z => ?_).symm.trans ho, hc, hdd, hi⟩
    subst z
    rw [ho, Option.some.injEq] at e'; subst e'; rw [hd'] at hdd; exact nomatch hdd
theorem byValue_tup {k : List Int} {x : Addr} {Q : Bool → Shared → Prop} (hx : IsTupleKey (intKind prog w) s.heap k x) (h : Q true s) :
    wpAny (model prog w) A (hashByValue 8 (.ref x)) Q E s := by
  have hT := hx.typeIs
  obtain ⟨o, items, n, ho, hc, hd, hi⟩ := hx
  unfold hashByValue
  refine wpAny_bind (wpAny_specialOf hT F.slot_tuple_hash.lookup ?_)
  dsimp only
  refine wpAny_bind (wpAny_seqItems ho hd ?_)
  refine wpAny_bind ?_
  show wpAny _ _ (forIn items _ _) _ _ s
  rw [← Array.forIn_toList]
  refine wpAny_forIn_list _ (fun rest r s' => r.1 = none ∧ s' = s ∧ ∀ v ∈ rest, ∃ n t, v = Value.int n t) _ ?_ ?_ _ _ ⟨rfl, rfl, items_cv hi⟩
  · rintro v rest r s' ⟨hr, rfl, hall⟩
    obtain ⟨n, t, rfl⟩ := hall v List.mem_cons_self
    refine wpAny_bind (wpAny_of_eq (show hashByValue 7 (.int n t) = pure true from by unfold hashByValue; rfl) (wpAny_pure ?_))
    simp only [Bool.not_true, Bool.false_eq_true, if_false]
    exact ⟨trivial, trivial, fun u hu' => hall u (List.mem_cons_of_mem _ hu')⟩
  · rintro ⟨r1, r2⟩ s' ⟨hr, rfl, _⟩
    simp only at hr
    subst hr
    exact wpAny_pure h
theorem Ent.perm {h h' : Heap} {es es' : Array (Int × Value)} (en : Ent prog w h es) (hk : ∀ k x, IsTupleKey (intKind prog w) h k x ↔ IsTupleKey (intKind prog w) h' k x) (f : Nat → Nat)
    (hf : ∀ i, i < es'.size → f i < es.size ∧ es'[i]? = es[f i]?) (hj : ∀ i j, i < es'.size → j < es'.size → f i = f j → i = j) : Ent prog w h' es' := by
  refine ⟨fun i hi => ?_, fun i j k b c g g' e1 e2 k1 k2 => ?_⟩
  · obtain ⟨k, b, e, q⟩ := en.ent (f i) (hf i hi).1
    exact ⟨k, b, by rw [(hf i hi).2]; exact e, (hk _ _).mp q⟩
  · have l1 := get_lt e1
    have l2 := get_lt e2
    rw [(hf i l1).2] at e1
    rw [(hf j l2).2] at e2
    exact hj i j l1 l2 (en.dis _ _ k b c g g' e1 e2 ((hk _ _).mpr k1) ((hk _ _).mpr k2))
theorem Ent.insert {h h' : Heap} {es : Array (Int × Value)} (en : Ent prog w h es) (hk : ∀ k x, IsTupleKey (intKind prog w) h k x ↔ IsTupleKey (intKind prog w) h' k x) {p : Nat} (hp : p ≤ es.size) {k : List Int} {x : Addr}
    (hx : IsTupleKey (intKind prog w) h k x) (hno : ¬ HasK prog w h es k) : Ent prog w h' (insertAt es p (tupleKeyHash (intKind prog w) k, .ref x)) := by
  have old : ∀ (i : Nat) (k' : List Int) (b : Addr) (g : Int), es[i]? = some (g, Value.ref b) → IsTupleKey (intKind prog w) h k' b → k' ≠ k := by
    rintro i k' b g e q rfl
    exact hno ⟨i, b, by rw [e, key_hash en (get_lt e) e q], q⟩
  refine ⟨fun i hi => ?_, fun i j k' b c g g' e1 e2 k1 k2 => ?_⟩
  · rw [ins_size hp] at hi
    rw [ins_at hp]
    by_cases c1 : i < p
    · rw [if_pos c1]
      obtain ⟨k', b, e, q⟩ := en.ent i (by omega)
      exact ⟨k', b, e, (hk _ _).mp q⟩
    · rw [if_neg c1]
      by_cases c2 : i = p
      · rw [if_pos c2]
        exact ⟨k, x, rfl, (hk _ _).mp hx⟩
      · rw [if_neg c2]
        obtain ⟨k', b, e, q⟩ := en.ent (i - 1) (by omega)
        exact ⟨k', b, e, (hk _ _).mp q⟩
  · rw [ins_at hp] at e1 e2
    have k1' := (hk _ _).mpr k1
    have k2' := (hk _ _).mpr k2
    have new : ∀ (b : Addr) (g : Int), some (tupleKeyHash (intKind prog w) k, Value.ref x) = some (g, Value.ref b) → IsTupleKey (intKind prog w) h k' b → k' = k := by
      intro b g e q
      simp only [Option.some.injEq, Prod.mk.injEq, Value.ref.injEq] at e
      obtain ⟨_, rfl⟩ := e
      exact q.inj hx
    by_cases a1 : i < p
    · rw [if_pos a1] at e1
      by_cases b1 : j < p
      · rw [if_pos b1] at e2
        exact en.dis _ _ _ _ _ _ _ e1 e2 k1' k2'
      · rw [if_neg b1] at e2
        by_cases b2 : j = p
        · rw [if_pos b2] at e2
          exact absurd (new _ _ e2 k2') (old _ _ _ _ e1 k1')
        · rw [if_neg b2] at e2
          have := en.dis _ _ _ _ _ _ _ e1 e2 k1' k2'
          omega
    · rw [if_neg a1] at e1
      by_cases a2 : i = p
      · rw [if_pos a2] at e1
        by_cases b1 : j < p
        · rw [if_pos b1] at e2
          exact absurd (new _ _ e1 k1') (old _ _ _ _ e2 k2')
        · rw [if_neg b1] at e2
          by_cases b2 : j = p
          · omega
          · rw [if_neg b2] at e2
            exact absurd (new _ _ e1 k1') (old _ _ _ _ e2 k2')
      · rw [if_neg a2] at e1
        by_cases b1 : j < p
        · rw [if_pos b1] at e2
          have := en.dis _ _ _ _ _ _ _ e1 e2 k1' k2'
          omega
        · rw [if_neg b1] at e2
          by_cases b2 : j = p
          · rw [if_pos b2] at e2
            exact absurd (new _ _ e2 k2') (old _ _ _ _ e1 k1')
          · rw [if_neg b2] at e2
            have := en.dis _ _ _ _ _ _ _ e1 e2 k1' k2'
            omega
theorem ins_mem {es : Array (Int × Value)} {p : Nat} (hp : p ≤ es.size) (x v : Int × Value) : (∃ i : Nat, (insertAt es p x)[i]? = some v) ↔ (∃ i : Nat, es[i]? = some v) ∨ v = x := by
  constructor
  · rintro ⟨i, e⟩
    rw [ins_at hp] at e
    split at e
    · exact .inl ⟨_, e⟩
    · split at e
      · rw [Option.some.injEq] at e; exact .inr e.symm
      · exact .inl ⟨_, e⟩
  · rintro (⟨i, e⟩ | rfl)
    · by_cases c : i < p
      · exact ⟨i, by rw [ins_at hp, if_pos c]; exact e⟩
      · exact ⟨i + 1, by rw [ins_at hp, if_neg (by omega), if_neg (by omega)]; exact e⟩
    · exact ⟨p, by rw [ins_at hp, if_neg (by omega), if_pos rfl]⟩
theorem relay_eq (a : Addr) (wanted : Nat) : setRelay a wanted = (do
    let (es, _, t) ← setState a
    if SetTable.sizeAbove wanted > sizeLine then unsupported "set:memory"
    let (es, t) ← (do
      let some (t, order) := t.relaid (es.map (·.1)) wanted | unsupported "internal:set-table-without-room"
      let es' := order.filterMap (es[·]?)
      if es'.size != es.size then unsupported "internal:set-table-lost-an-element"
      pure (es', t) : Sem (Array (Int × Value) × SetTable))
    storeSet a es t) := rfl
theorem add_tup {S : Addr} {led : Bool} {es : Array (Int × Value)} (hS : SetT s.heap S led es) (en : Ent prog w s.heap es) {k : List Int} {x : Addr} (hx : IsTupleKey (intKind prog w) s.heap k x)
    (hu : A.units < cLine) (h64 : es.size < 64) {Q : Bool → Shared → Prop}
    (h : ∀ b h' es', Heap.SameBut S s.heap h' → SetT h' S led es' → Ent prog w h' es' →
      (HasK prog w s.heap es k ∧ es' = es ∨ ¬ HasK prog w s.heap es k ∧ es'.size = es.size + 1 ∧ ∀ v, (∃ i : Nat, es'[i]? = some v) ↔ (∃ i : Nat, es[i]? = some v) ∨ v = (tupleKeyHash (intKind prog w) k, .ref x)) → Q b { s with heap := h' }) :
    wpAny (model prog w) A (setAddHashed S (.ref x) (tupleKeyHash (intKind prog w) k)) Q E s := by
  have hS0 := hS
  obtain ⟨ep, t, ho, b, hl, hp, hr⟩ := hS
  have hs : es.size ≤ t.mask := by omega
  have hf := tb_fits b hs
  unfold setAddHashed setAddHashedIn
  refine wpAny_holding (wpAny_bind (wpAny_setState_of ho rfl hf ?_))
  dsimp only
  have hsc : byScan (.ref x) es = false := by unfold byScan; simp [Value.scannable]
  rw [hsc]
  simp only [Bool.false_eq_true, if_false]
  unfold setSearch
  obtain ⟨e, he, hn⟩ := b.free hs
  obtain ⟨n1, h1, h2, h3⟩ := meet b.mask (tupleKeyHash (intKind prog w) k) 0 he
  have ht : 10 * turns t.mask < 100000 := by
    unfold turns
    rcases b.mask with e | e | e <;> rw [e] <;> decide
  refine wpAny_bind (search_tup ho rfl b hs hu en hx (fun hk => ?_) (fun n ha hb hno => ?_) 100000 0 none ⟨n1, h1, by omega, by rw [h3]; exact hn⟩ (fun j hj => absurd hj (by omega)) rfl)
  · exact wpAny_pure (h false s.heap es (Heap.SameBut.refl _ _) hS0 en (.inl ⟨hk, rfl⟩))
  · dsimp only
    refine wpAny_bind (wpAny_setState_of ho rfl hf ?_)
    dsimp only
    have T1 := b.add (tupleKeyHash (intKind prog w) k) (.ref x) n ha (sl_le _ _ _) hb
    have hpl : below t.place (sl t.mask (tupleKeyHash (intKind prog w) k) n) ≤ es.size := by rw [← b.size]; exact (below_at b.ris _).1
    have put := put_eq t b.dum (sl t.mask (tupleKeyHash (intKind prog w) k) n)
    rw [put] at T1 ⊢
    dsimp only at T1 ⊢
    rw [if_pos hp]
    refine wpAny_bind (byValue_tup hx ?_)
    simp only [if_true]
    generalize hpp : below t.place (sl t.mask (tupleKeyHash (intKind prog w) k) n) = p at T1 hpl ⊢
    generalize htt : ({ t with place := insertAt t.place p (sl t.mask (tupleKeyHash (intKind prog w) k) n) } : SetTable) = t1 at T1 ⊢
    have tm : t1.mask = t.mask := by rw [← htt]
    have tl : t1.led = led := by rw [← htt]; exact hl
    have tp : t1.plain = true := by rw [← htt]; exact hp
    have z1 : (insertAt es p (tupleKeyHash (intKind prog w) k, Value.ref x)).size = es.size + 1 := ins_size hpl _
    have hsl : sizeLine ≥ 4096 := by rw [sizeLine_eq]; decide
    refine wpAny_bind (wpAny_storeSet_of ho rfl ?_ (by rw [z1]; omega))
    have ho1 := (SetOf_get ho (insertAt es p (tupleKeyHash (intKind prog w) k, Value.ref x)) t1)
    have sb1 := Heap.SameBut.update s.heap S (Obj.putSet (insertAt es p (tupleKeyHash (intKind prog w) k, Value.ref x)) t1)
    generalize s.heap.update S (Obj.putSet (insertAt es p (tupleKeyHash (intKind prog w) k, Value.ref x)) t1) = h1 at ho1 sb1 ⊢
    have s1 : t1.place.size = es.size + 1 := by rw [T1.size, z1]
    have fl : t1.fill = es.size + 1 := by unfold SetTable.fill; rw [T1.dum, s1]; rfl
    have hk1 : ∀ k x, IsTupleKey (intKind prog w) s.heap k x ↔ IsTupleKey (intKind prog w) h1 k x := fun k x => key_eq sb1 ho rfl ho1 rfl k x
    have en1 := en.insert hk1 hpl hx hno
    by_cases full : t1.tooFull = true
    · rw [full]
      simp only [Bool.not_false, Bool.and_self, if_true]
      have fe : (es.size + 1) * 5 ≥ t.mask * 3 := by
        unfold SetTable.tooFull at full
        rw [fl, tm] at full
        simpa using full
      have hm : (t1.mask = 7 ∧ (insertAt es p (tupleKeyHash (intKind prog w) k, Value.ref x)).size = 5) ∨ (t1.mask = 31 ∧ (insertAt es p (tupleKeyHash (intKind prog w) k, Value.ref x)).size = 19) := by
        rw [z1, tm]
        rcases b.mask with e | e | e <;> omega
      obtain ⟨pl, od, r1, r2, r3, r4, r5, r6, r7, r8⟩ := Tb.again hm
      rw [← z1, relay_eq]
      have hf1 : t1.fits (insertAt es p (tupleKeyHash (intKind prog w) k, Value.ref x)).size = true := tb_fits T1 (by rcases hm with ⟨e1, e2⟩ | ⟨e1, e2⟩ <;> omega)
      refine wpAny_bind ?_
      refine wpAny_bind (wpAny_setState_of (s := { s with heap := h1 }) ho1 rfl hf1 ?_)
      dsimp only
      rw [if_neg (by omega)]
      rw [r1]
      dsimp only
      rw [show ((od.filterMap ((insertAt es p (tupleKeyHash (intKind prog w) k, Value.ref x))[·]?)).size != (insertAt es p (tupleKeyHash (intKind prog w) k, Value.ref x)).size) = false from by rw [r3]; simp]
      simp only [Bool.false_eq_true, if_false]
      refine wpAny_bind (wpAny_pure ?_)
      refine wpAny_storeSet_of (s := { s with heap := h1 }) ho1 rfl ?_ (by rw [r3, z1]; omega)
      have ho2 := (SetOf_get ho1 (od.filterMap ((insertAt es p (tupleKeyHash (intKind prog w) k, Value.ref x))[·]?)) { mask := sizeAbove (grown (insertAt es p (tupleKeyHash (intKind prog w) k, Value.ref x)).size) - 1, place := pl, dummies := #[], finger := t1.finger, led := t1.led, moves := t1.movedTo (sizeAbove (grown (insertAt es p (tupleKeyHash (intKind prog w) k, Value.ref x)).size) - 1), plain := t1.plain })
      have sb2 := Heap.SameBut.update h1 S (Obj.putSet (od.filterMap ((insertAt es p (tupleKeyHash (intKind prog w) k, Value.ref x))[·]?)) { mask := sizeAbove (grown (insertAt es p (tupleKeyHash (intKind prog w) k, Value.ref x)).size) - 1, place := pl, dummies := #[], finger := t1.finger, led := t1.led, moves := t1.movedTo (sizeAbove (grown (insertAt es p (tupleKeyHash (intKind prog w) k, Value.ref x)).size) - 1), plain := t1.plain })
      dsimp only at ho2 sb2 ⊢
      generalize h1.update S _ = h2 at ho2 sb2 ⊢
      have hk2 : ∀ k x, IsTupleKey (intKind prog w) h1 k x ↔ IsTupleKey (intKind prog w) h2 k x := fun k x => key_eq sb2 ho1 rfl ho2 rfl k x
      refine wpAny_pure (h true h2 _ (sb1.trans sb2) ⟨_, _, ho2, r2, tl, tp, by rw [r3]; exact r7⟩ (en1.perm hk2 (fun i => od.getD i 0) (fun i hi => ?_) fun i j hi hj e => r5 i j (by rw [← r3]; exact hi) (by rw [← r3]; exact hj) e) (.inr ⟨hno, by rw [r3, z1], fun v => ?_⟩))
      · rw [r3] at hi
        obtain ⟨q, q1, q2, q3⟩ := r4 i hi
        rw [← q3]
        exact ⟨q1, q2⟩
      · rw [← ins_mem hpl]
        constructor
        · rintro ⟨i, e⟩
          obtain ⟨q, q1, q2, q3⟩ := r4 i (by rw [← r3]; exact get_lt e)
          exact ⟨q, by rw [← q2]; exact e⟩
        · rintro ⟨i, e⟩
          obtain ⟨i', hi', e'⟩ := r6 i (get_lt e)
          obtain ⟨q, q1, q2, q3⟩ := r4 i' hi'
          exact ⟨i', by rw [q2, q3, e']; exact e⟩
    · rw [show t1.tooFull = false from by simpa using full]
      simp only [Bool.not_false, Bool.and_false, Bool.false_eq_true, if_false]
      have fe : (es.size + 1) * 5 < t1.mask * 3 := by
        unfold SetTable.tooFull at full
        rw [fl] at full
        simpa using full
      exact wpAny_pure (h true h1 _ sb1 ⟨_, _, ho1, T1, tl, tp, by rw [z1]; exact fe⟩ en1 (.inr ⟨hno, z1, fun v => ins_mem hpl _ _⟩))
end
end L2
/-! ### set(xs) of a list of tuples of ints -/
namespace L2
open PySem PySem.SetTable PySem.Spec PyProof.Rows
section
variable {prog : Program} {w : World} {A : Around} {E : Value → Shared → Prop} {s : Shared}
theorem Ent.mv {h h' : Heap} {es : Array (Int × Value)} (en : Ent prog w h es) (hk : ∀ (i : Nat) (k : List Int) (g : Int) (x : Addr), es[i]? = some (g, Value.ref x) → IsTupleKey (intKind prog w) h k x → IsTupleKey (intKind prog w) h' k x) : Ent prog w h' es := by
  refine ⟨fun i hi => ?_, fun i j k b c g g' e1 e2 k1 k2 => ?_⟩
  · obtain ⟨k, b, e, q⟩ := en.ent i hi
    exact ⟨k, b, e, hk i k _ b e q⟩
  · obtain ⟨k', b', e1', q1⟩ := en.ent i (get_lt e1)
    obtain ⟨k'', b'', e2', q2⟩ := en.ent j (get_lt e2)
    rw [e1] at e1'
    rw [e2] at e2'
    simp only [Option.some.injEq, Prod.mk.injEq, Value.ref.injEq] at e1' e2'
    obtain ⟨rfl, rfl⟩ := e1'
    obtain ⟨rfl, rfl⟩ := e2'
    have := k1.inj (hk i k' _ b e1 q1)
    subst this
    have := k2.inj (hk j k'' _ c e2 q2)
    subst this
    exact en.dis i j _ _ _ _ _ e1 e2 q1 q2
/-- es keeps just the first i things -/
structure Made (prog : Program) (w : World) (kk : Nat → List Int) (ad : Nat → Addr) (i : Nat) (es : Array (Int × Value)) : Prop where
  size : es.size ≤ i
  from_ : ∀ (p : Nat) (v : Int × Value), es[p]? = some v → ∃ j, j < i ∧ v = (tupleKeyHash (intKind prog w) (kk j), Value.ref (ad j))
  all : ∀ j, j < i → ∃ (p j' : Nat), j' < i ∧ kk j' = kk j ∧ es[p]? = some (tupleKeyHash (intKind prog w) (kk j'), Value.ref (ad j'))
theorem Made.step {kk : Nat → List Int} {ad : Nat → Addr} {i : Nat} {es es' : Array (Int × Value)} {h : Heap} (m : Made prog w kk ad i es) (en : Ent prog w h es) (hkk : ∀ j, j ≤ i → IsTupleKey (intKind prog w) h (kk j) (ad j))
    (c : HasK prog w h es (kk i) ∧ es' = es ∨ ¬ HasK prog w h es (kk i) ∧ es'.size = es.size + 1 ∧ ∀ v, (∃ p : Nat, es'[p]? = some v) ↔ (∃ p : Nat, es[p]? = some v) ∨ v = (tupleKeyHash (intKind prog w) (kk i), .ref (ad i))) :
    Made prog w kk ad (i + 1) es' := by
  rcases c with ⟨⟨p, b, e, q⟩, rfl⟩ | ⟨_, z, mem⟩
  · refine ⟨Nat.le_succ_of_le m.size, fun p v e => ?_, fun j hj => ?_⟩
    · obtain ⟨j, hj, ev⟩ := m.from_ p v e
      exact ⟨j, by omega, ev⟩
    · by_cases c : j < i
      · obtain ⟨p, j', hj', ek, ev⟩ := m.all j c
        exact ⟨p, j', by omega, ek, ev⟩
      · have : j = i := by omega
        subst this
        obtain ⟨j', hj', ev⟩ := m.from_ p _ e
        simp only [Prod.mk.injEq, Value.ref.injEq] at ev
        obtain ⟨_, rfl⟩ := ev
        have := q.inj (hkk j' (by omega))
        exact ⟨p, j', by omega, this.symm, by rw [e, this]⟩
  · refine ⟨by rw [z]; have := m.size; omega, fun p v e => ?_, fun j hj => ?_⟩
    · rcases (mem v).mp ⟨p, e⟩ with ⟨p', e'⟩ | e'
      · obtain ⟨j, hj, ev⟩ := m.from_ p' v e'
        exact ⟨j, by omega, ev⟩
      · exact ⟨i, by omega, e'⟩
    · by_cases c : j < i
      · obtain ⟨p, j', hj', ek, ev⟩ := m.all j c
        obtain ⟨p', e'⟩ := (mem _).mpr (.inl ⟨p, ev⟩)
        exact ⟨p', j', by omega, ek, e'⟩
      · have : j = i := by omega
        subst this
        obtain ⟨p', e'⟩ := (mem _).mpr (.inr rfl)
        exact ⟨p', j, by omega, rfl, e'⟩
theorem SetT.mv {h h' : Heap} {S : Addr} {led : Bool} {es : Array (Int × Value)} (a : SetT h S led es) (e : ∀ o, h.get? S = some o → h'.get? S = some o) : SetT h' S led es := by
  obtain ⟨ep, t, ho, r⟩ := a
  exact ⟨ep, t, e _ ho, r⟩
theorem key_mv {h h' : Heap} {k : List Int} {x : Addr} (q : IsTupleKey (intKind prog w) h k x) (e : ∀ o, h.get? x = some o → h'.get? x = some o) : IsTupleKey (intKind prog w) h' k x := by
  obtain ⟨o, items, n, ho, r⟩ := q
  exact ⟨o, items, n, e _ ho, r⟩
theorem upd_loop {R : Result → Shared → Prop} {I : Addr} {fp wr : List Addr} {G : Array GenState → Array GenState → Prop} {n : Nat} {P : Nat → Value → Prop} {St : Nat → Shared → Prop}
    (W : WalksS prog w A.in1 I fp wr G n P St) (S : Addr) (hSf : S ∉ fp) (hu : A.in1.units < cLine) (led : Bool)
    (kk : Nat → List Int) (ad : Nat → Addr) (hval : ∀ i v, P i v → v = .ref (ad i)) (hwr : ∀ i, i < n → ad i ∉ wr) (hb : n < 64) :
    ∀ (k i : Nat) (s : Shared) (es : Array (Int × Value)), n - i = k → i ≤ n → St i s → SetT s.heap S led es → Ent prog w s.heap es → Made prog w kk ad i es → (∀ j, j < n → IsTupleKey (intKind prog w) s.heap (kk j) (ad j)) →
      (∀ s' es', Moved (S :: wr) G s s' → SetT s'.heap S led es' → Ent prog w s'.heap es' → Made prog w kk ad n es' → R (.ok (.ret .none)) s') →
      codeAny (model prog w) A (.builtin "set.update.loop" ⟨[.ref S, .ref I], []⟩) R s := by
  have hSw : S ∉ wr := fun h => hSf (W.sub _ h)
  have hsub : ∀ b ∈ wr, b ∈ S :: wr := fun b hb => List.mem_cons_of_mem _ hb
  intro k
  induction k with
  | zero =>
    intro i s es hk hi hst hS en mk hkk hR
    have hin : i = n := by omega
    subst hin
    refine codeAny_builtin F.entry_set_update_loop ?_
    rw [Around.under_plainId F.plain_set_update_loop _]
    show wpAny _ A.in1 (pyNext (.ref I) >>= _) _ _ s
    refine wpAny_bind (W.done s _ _ hst fun s' hm => ?_)
    show wpAny _ A.in1 (ret Value.none) _ _ s'
    refine wpAny_pure (hR s' es (hm.mono hsub) (hS.mv fun o e => hm.heap S o hSw e) (en.mv fun p k g x e q => key_mv q fun o e' => ?_) mk)
    obtain ⟨j, hj, ev⟩ := mk.from_ p _ e
    simp only [Prod.mk.injEq, Value.ref.injEq] at ev
    obtain ⟨_, rfl⟩ := ev
    exact hm.heap _ o (hwr j hj) e'
  | succ k ih =>
    intro i s es hk hi hst hS en mk hkk hR
    have hlt : i < n := by omega
    refine codeAny_builtin F.entry_set_update_loop ?_
    rw [Around.under_plainId F.plain_set_update_loop _]
    show wpAny _ A.in1 (pyNext (.ref I) >>= _) _ _ s
    refine wpAny_bind (W.item i s _ _ hlt hst fun v s' hP hst' hm => ?_)
    obtain rfl := hval i v hP
    have hS' : SetT s'.heap S led es := hS.mv fun o e => hm.heap S o hSw e
    have hkk' : ∀ j, j < n → IsTupleKey (intKind prog w) s'.heap (kk j) (ad j) := fun j hj => key_mv (hkk j hj) fun o e => hm.heap _ o (hwr j hj) e
    have en' : Ent prog w s'.heap es := en.mv fun p k g x e q => key_mv q fun o e' => by
      obtain ⟨j, hj, ev⟩ := mk.from_ p _ e
      simp only [Prod.mk.injEq, Value.ref.injEq] at ev
      obtain ⟨_, rfl⟩ := ev
      exact hm.heap _ o (hwr j (by omega)) e'
    show wpAny _ A.in1 (holding [Value.ref (ad i)] (setAdd S (.ref (ad i))) >>= _) _ _ s'
    refine wpAny_bind (wpAny_holding ?_)
    unfold setAdd
    refine wpAny_holding ?_
    refine wpAny_bind (wpAny_pyHash_tuple hu (hkk' i hlt) ?_)
    refine add_tup (s := { s' with toks := s'.toks + ((kk i).length + 1) }) hS' en' (hkk' i hlt) hu (by have := mk.size; omega) fun b h' es' hsb hS2 en2 c => ?_
    have hkS : ∀ j, j < n → ad j ≠ S := by
      intro j hj e
      obtain ⟨o, items, m, ho, _, hd, _⟩ := hkk' j hj
      obtain ⟨ep, t, ho', _⟩ := hS'
      rw [e, ho', Option.some.injEq] at ho
      subst ho
      exact nomatch hd
    refine wpAny_pure ⟨plainId_quiet F.plain_set_update_loop _, ih (i + 1) _ es' (by omega) hlt (W.frame _ s' _ _ hst' (Nat.le_add_right _ _) fun b hb o e => ?_) hS2 en2 (mk.step en' (fun j hj => hkk' j (by omega)) c) (fun j hj => key_mv (hkk' j hj) fun o e => ?_) fun s'' es'' hm'' hS'' en'' mk'' => ?_⟩
    · rw [hsb.2 b (fun h : b = S => hSf (by rw [← h]; exact hb))]; exact e
    · show h'.get? _ = _
      rw [hsb.2 _ (hkS j hj)]; exact e
    · refine hR s'' es'' (Moved.trans W.gtrans ((hm.mono hsub).then_heap (Nat.le_add_right _ _) fun b o hb e => ?_) hm'') hS'' en'' mk''
      rw [hsb.2 b (fun h : b = S => hb (by rw [h]; exact List.mem_cons_self))]; exact e
theorem new_set (a : Value) {Q₁ : Value → Shared → Prop}
    (h : Q₁ (.ref s.heap.objs.size) { s with heap := s.heap.push { cls := .type "set", dict := none, data := .set #[] 0 (.fresh 0 0 (!w.params.followText "set-order")) } }) :
    codeAny (model prog w) A (.call (.builtin "set.__new__") ⟨[.type "set", a], []⟩) (wants Q₁ E) s := by
  refine codeAny_of_tree ?_
  show wpAny _ A.in1 (do checkBuiltinCall "set.__new__" ⟨[.type "set", a], []⟩; again (.builtin "set.__new__" ⟨[.type "set", a], []⟩)) _ _ s
  refine wpAny_bind (wpAny_of_eq (F.newCall_set_1 a) (wpAny_pure ⟨plainId_quiet F.plain_set_new _, codeAny_builtin F.entry_set_new ?_⟩))
  rw [Around.under_plainId F.plain_set_new _]
  unfold Builtin.«set.__new__» Builtin.Frozenset.newClass
  have hsub := sub_set_self
  obtain ⟨hp, g, d, tk, os⟩ := s
  dsimp only
  wp_walk
  refine wpAny_askSetting (wpAny_pure ?_)
  dsimp only
  simp only [newObj]
  refine wpAny_bind (wpAny_alloc (wpAny_pure ?_))
  exact wpAny_pure h
theorem fresh_tb (led : Bool) : Tb (.fresh 0 0 led) #[] :=
  ⟨.inl rfl, rfl, rfl, fun i j _ h => absurd h (by show ¬ j < 0; omega), fun i h => absurd h (by show ¬ i < 0; omega), fun i h => absurd h (by show ¬ i < 0; omega)⟩
set_option maxHeartbeats 3200000 in
theorem call_set_tup {l : Addr} {items : Array Value} {kk : Nat → List Int} {ad : Nat → Addr} {Q : Value → Shared → Prop}
    (hh : A.handled = none) (hu : A.units + 8 < cLine) (hl : s.heap.IsList l items) (hn : items.size < 64)
    (hk : ∀ i, i < items.size → items[i]? = some (.ref (ad i)) ∧ IsTupleKey (intKind prog w) s.heap (kk i) (ad i))
    (h : ∀ (h' : Heap) (tk : Nat) (es : Array (Int × Value)), SetT h' s.heap.objs.size (!w.params.followText "set-order") es → Ent prog w h' es → Made prog w kk ad items.size es →
      (∀ b o, b < s.heap.objs.size → s.heap.get? b = some o → h'.get? b = some o) → Q (.ref s.heap.objs.size) { s with heap := h', toks := tk }) :
    wpAny (model prog w) A (call (.type "set") [.ref l]) Q E s := by
  obtain ⟨c, tl, hmro⟩ := F.called_set.mro
  have hmade := F.called_set.made
  have hsub := F.called_set.sub
  refine wpAny_call (codeAny_of_tree ?_)
  show wpAny _ _ (callAny (.type "set") _) _ _ _
  refine wpAny_pure ⟨Code.quiet_builtin _ (by decide +kernel), codeAny_builtin F.entry_type_call ?_⟩
  rw [Around.under_plain (weight_type_call_type "set" [.ref l] []) rfl]
  have h1 := F.called_set.notType
  have h2 := F.called_set.canCreate
  have hct := F.typeCall_set_1 (.ref l)
  repeat (any_goals (first | assumption | wp_step))
  refine codeAny_mono (new_set (.ref l) (E := E) (Q₁ := fun obj s₁ => obj = .ref s.heap.objs.size ∧ s₁ = { s with heap := s.heap.push { cls := .type "set", dict := none, data := .set #[] 0 (.fresh 0 0 (!w.params.followText "set-order")) } }) ⟨rfl, rfl⟩) fun r s₁ hr => ?_
  generalize (!w.params.followText "set-order") = led at h hr
  cases r with
  | error e => exact hr
  | ok fl =>
    cases fl with
    | ret obj =>
      obtain ⟨rfl, rfl⟩ := hr
      have hS : (s.heap.push { cls := .type "set", dict := none, data := .set #[] 0 (.fresh 0 0 led) }).get? s.heap.objs.size = some { cls := .type "set", dict := none, data := .set #[] 0 (.fresh 0 0 led) } := Heap.get?_push_size _ rfl
      have hT : Shared.TypeIs { s with heap := s.heap.push { cls := .type "set", dict := none, data := .set #[] 0 (.fresh 0 0 led) } } (.ref s.heap.objs.size) "set" := ⟨_, hS, rfl⟩
      have hli := F.called_set.init.lookup
      have hbi := F.called_set.init.bind (.ref s.heap.objs.size)
      repeat (any_goals (first | assumption | wp_step))
      refine codeAny_mono (codeAny_call_builtin (R := wants (fun r s₂ => r = .none ∧ ∃ h' tk es, s₂ = { s with heap := h', toks := tk } ∧
          SetT h' s.heap.objs.size led es ∧ Ent prog w h' es ∧ Made prog w kk ad items.size es ∧
          (∀ b o, b < s.heap.objs.size → s.heap.get? b = some o → h'.get? b = some o)) E) F.called_set.init.plain F.entry_set_init (check_set_init_1 hT ?_)) fun r₂ s₂ hr₂ => ?_
      · obtain ⟨ol, hol, hcl, nl, hdl⟩ := hl
        obtain ⟨ocls, odict, odata, oslots⟩ := ol
        simp only at hcl hdl
        subst hcl; subst hdl
        have hol' : (s.heap.push { cls := .type "set", dict := none, data := .set #[] 0 (.fresh 0 0 led) }).get? l = some { cls := .type "list", dict := odict, data := .seq items nl, slots := oslots } := Heap.get?_push_of_some _ hol
        have hsls := F.sub_list_set
        have hslf := F.sub_list_frozenset
        have hne : (Value.type "list" == Value.type "dict") = false := by decide
        have hl1 : (s.heap.push { cls := .type "set", dict := none, data := .set #[] 0 (.fresh 0 0 led) }).IsList l items := ⟨_, hol', rfl, nl, rfl⟩
        unfold Builtin.«set.__init__» noKeywords Builtin.Frozenset.updateFrom
        generalize hPI : pyIter = PI
        wp_walk
        subst hPI
        refine wpAny_pyIter_list hl1 ?_
        refine wpAny_bind (wpAny_runValue ?_)
        have hlS : l < s.heap.objs.size := Heap.lt_size hol
        have hh3 : A.in1.in1.in1.handled = none := by simp [hh]
        have hneI : l ≠ (s.heap.push { cls := .type "set", dict := none, data := .set #[] 0 (.fresh 0 0 led) }).objs.size := by
          rw [Heap.size_push]; exact Nat.ne_of_lt (Nat.lt_succ_of_lt hlS)
        have hSf : s.heap.objs.size ∉ [(s.heap.push { cls := .type "set", dict := none, data := .set #[] 0 (.fresh 0 0 led) }).objs.size, l] := by
          rw [Heap.size_push]; simp only [List.mem_cons, List.mem_singleton, List.not_mem_nil, or_false, not_or]
          exact ⟨Nat.ne_of_lt (Nat.lt_succ_self _), Nat.ne_of_gt hlS⟩
        refine upd_loop ((Walks.list hh3 _ l hneI items).toS) s.heap.objs.size
          hSf ?hu led kk ad ?hval ?hwr hn (items.size - 0) 0 _ #[] (by omega) (Nat.zero_le _)
          ⟨⟨_, Heap.get?_push_size _ rfl, rfl, rfl⟩, (hl1.push _)⟩ ?hS0 ?hE0 ?hM0 ?hkk ?hR
        case hu => show A.units + 3 < cLine; omega
        case hval =>
          intro i v hv
          have hi : i < items.size := get_lt hv
          rw [(hk i hi).1, Option.some.injEq] at hv
          exact hv.symm
        case hwr =>
          intro i hi
          obtain ⟨o, _, _, ho, _⟩ := (hk i hi).2
          have := Heap.lt_size ho
          rw [Heap.size_push]
          simp only [List.mem_cons, List.not_mem_nil, or_false]
          exact Nat.ne_of_lt (Nat.lt_succ_of_lt this)
        case hS0 => exact ⟨_, _, Heap.get?_push_of_some _ hS, fresh_tb led, rfl, rfl, by show 0 * 5 < 7 * 3; decide⟩
        case hE0 => exact ⟨fun i hi => absurd hi (by show ¬ i < 0; omega), fun i j k b c g g' e => by simp at e⟩
        case hM0 => exact ⟨Nat.le_refl 0, fun p v e => by simp at e, fun j hj => absurd hj (by omega)⟩
        case hkk => exact fun j hj => key_mv (hk j hj).2 fun o e => Heap.get?_push_of_some _ (Heap.get?_push_of_some _ e)
        case hR =>
          intro s' es' hm hS' en' mk'
          obtain ⟨h', g', d', tk', os'⟩ := s'
          have eg : g' = s.gens := hm.gens
          have ed : d' = s.drawn := hm.drawn
          have eo : os' = s.os := hm.os
          subst eg; subst ed; subst eo
          show wpAny _ _ _ _ _ _
          refine wpAny_pure ?_
          show wpAny _ _ (ret Value.none) _ _ _
          refine wpAny_pure ⟨rfl, h', tk', es', rfl, hS', en', mk', fun b o hb e => ?_⟩
          have hb1 : b ≠ s.heap.objs.size := Nat.ne_of_lt hb
          have hb2 : b ≠ (s.heap.push { cls := .type "set", dict := none, data := .set #[] 0 (.fresh 0 0 led) }).objs.size := by
            rw [Heap.size_push]; exact Nat.ne_of_lt (Nat.lt_succ_of_lt hb)
          exact hm.heap b o (by simp only [List.mem_cons, List.mem_singleton, List.not_mem_nil, or_false, not_or]; exact ⟨hb1, hb2⟩) (Heap.get?_push_of_some _ (Heap.get?_push_of_some _ e))
      · cases r₂ with
        | error e => exact hr₂
        | ok fl₂ =>
          cases fl₂ with
          | ret r =>
            obtain ⟨rfl, h', tk, es, rfl, hS', en', mk', hk'⟩ := hr₂
            repeat (any_goals (first | assumption | wp_step))
            exact h _ _ _ hS' en' mk' hk'
          | _ => exact hr₂.elim
    | _ => exact hr.elim
end
end L2
/-! ### walking over a set of tuples -/
namespace L2
open PySem PySem.SetTable PySem.Spec PyProof.Rows
theorem entry_set_iter' : entryFor table "set.__iter__" = some Builtin.«frozenset.__iter__» :=
  entryFor_alias (id' := "frozenset.__iter__") (by kernel_rfl) rfl (by decide +kernel) (by kernel_rfl)
theorem slot_seti_iter : Slot "set_iterator" "__iter__" "set_iterator.__iter__" :=
  .of (owner := "set_iterator") (n := "__iter__") (by rw [typeLookup_type, builtinLookup_eq_fast]; kernel_rfl) (by decide +kernel) (by decide +kernel) (by decide +kernel)
    (by first | exact .inl (by decide +kernel) | exact .inr (by decide +kernel)) (by rw [isSubtype_type]; kernel_rfl)
theorem entry_seti_iter : entryFor table "set_iterator.__iter__" = some Builtin.«dict_keyiterator.__iter__» :=
  entryFor_alias (id' := "dict_keyiterator.__iter__") (by kernel_rfl) rfl (by decide +kernel) (by kernel_rfl)
theorem args_seti_iter (a : Value) : argsOk "set_iterator.__iter__" ⟨[a], []⟩ := by unfold argsOk; kernel_rfl
theorem slot_seti_next : Slot "set_iterator" "__next__" "set_iterator.__next__" :=
  .of (owner := "set_iterator") (n := "__next__") (by rw [typeLookup_type, builtinLookup_eq_fast]; kernel_rfl) (by decide +kernel) (by decide +kernel) (by decide +kernel)
    (by first | exact .inl (by decide +kernel) | exact .inr (by decide +kernel)) (by rw [isSubtype_type]; kernel_rfl)
theorem entry_seti_next : entryFor table "set_iterator.__next__" = some Builtin.«set_iterator.__next__» := entryFor_of_tree (by kernel_rfl)
theorem args_seti_next (a : Value) : argsOk "set_iterator.__next__" ⟨[a], []⟩ := by unfold argsOk; kernel_rfl
/-! the order of a walk -/
theorem er_perm {α : Type} : ∀ (l : List α) (i : Nat) (h : i < l.length), ([l[i]] ++ l.eraseIdx i).Perm l
  | [], i, h => absurd h (by simp)
  | a :: l, 0, h => by simp
  | a :: l, i + 1, h => by
    have hi : i < l.length := by simpa using h
    have := er_perm l i hi
    simp only [List.getElem_cons_succ, List.eraseIdx_cons_succ, List.singleton_append] at this ⊢
    exact (List.Perm.swap a l[i] _).trans (this.cons a)
theorem pick_go {α : Type} (next : Nat → Nat) : ∀ (f k : Nat) (left : List α) (out : Array α), left.length = f → (pickOrder.go next f k left out).toList.Perm (out.toList ++ left)
  | 0, k, left, out, e => by
    have : left = [] := List.length_eq_zero_iff.mp e
    subst this
    unfold pickOrder.go
    simp
  | f + 1, k, left, out, e => by
    have hp : next k % left.length < left.length := Nat.mod_lt _ (by omega)
    unfold pickOrder.go
    rw [List.getElem?_eq_getElem hp]
    dsimp only
    refine (pick_go next f (k + 1) _ _ (by rw [List.length_eraseIdx_of_lt hp]; omega)).trans ?_
    rw [Array.toList_push, List.append_assoc]
    refine List.Perm.append_left _ ?_
    exact er_perm left _ hp
theorem pick_perm {α : Type} (next : Nat → Nat) (xs : Array α) : (pickOrder next xs).toList.Perm xs.toList := by
  unfold pickOrder
  simpa using pick_go next xs.size 0 xs.toList #[] (by simp)
/-- the things in the order of the walk -/
def wkOf (w : World) (a : Addr) (ep : Nat) (es : Array (Int × Value)) : Array (Int × Value) := if w.params.followText "set-order" then pickOrder (w.params.setOrder a ep) es else es
theorem wk_perm (w : World) (a : Addr) (ep : Nat) (es : Array (Int × Value)) : (wkOf w a ep es).toList.Perm es.toList := by
  unfold wkOf
  split
  · exact pick_perm _ _
  · exact List.Perm.refl _
theorem wk_size (w : World) (a : Addr) (ep : Nat) (es : Array (Int × Value)) : (wkOf w a ep es).size = es.size := by
  have := (wk_perm w a ep es).length_eq
  simpa using this
/-- the slot that the iterator keeps before the i-th thing -/
def slAt (w : World) (t : SetTable) (i : Nat) : Nat := if w.params.followText "set-order" then 0 else if i = 0 then 0 else t.place.getD (i - 1) 0 + 1
theorem below_all {xs : Array Nat} (r : Ris xs) {j p : Nat} (hp : p ≤ xs.size) (h1 : ∀ i, i < p → xs.getD i 0 < j) (h2 : ∀ i, p ≤ i → i < xs.size → j ≤ xs.getD i 0) : below xs j = p := by
  obtain ⟨a1, a2, a3⟩ := below_at r j
  rcases Nat.lt_trichotomy (below xs j) p with c | c | c
  · have := h1 _ c
    have := a3 _ (Nat.le_refl _) (by omega)
    omega
  · exact c
  · have := a2 _ c
    have := h2 p (Nat.le_refl _) (by omega)
    omega
theorem below_sl {t : SetTable} (r : Ris t.place) {i : Nat} (hi : i ≤ t.place.size) : below t.place (if i = 0 then 0 else t.place.getD (i - 1) 0 + 1) = i := by
  by_cases z : i = 0
  · subst z
    exact below_all r (Nat.zero_le _) (fun i h => absurd h (by omega)) fun i _ _ => Nat.zero_le _
  · rw [if_neg z]
    refine below_all r hi (fun j hj => ?_) fun j h1 h2 => ?_
    · rcases Nat.lt_or_ge j (i - 1) with c | c
      · have := r j (i - 1) c (by omega); omega
      · have : j = i - 1 := by omega
        subst this; omega
    · have := r (i - 1) j (by omega) h2; omega
section
variable {prog : Program} {w : World} {A : Around} {E : Value → Shared → Prop} {s : Shared}
theorem next_eq (a : Addr) (slot given epochThen : Nat) : setNext a slot given epochThen = (do
    let (es, epoch, t) ← setState a
    if ← setsByText then
      if epoch != epochThen then unsupported "set_iterator.__next__:elements-changed"
      return ((← setWalk a)[given]?).map fun e => (e.2, slot)
    if !t.plain && es.size > 1 then unsupported "set_iterator.__next__:the-table-is-plain-no-more"
    (do if !t.led && !es.isEmpty then unsupported "set:maker-not-led" : Sem Unit)
    let i := SetTable.below t.place slot
    return match es[i]?, t.place[i]? with
      | some (_, x), some j => some (x, j + 1)
      | _, _ => none) := rfl
theorem set_next {S : Addr} {es : Array (Int × Value)} {ep : Nat} {t : SetTable} {i : Nat} {Q : Option (Value × Nat) → Shared → Prop}
    (ho : s.heap.get? S = some { cls := .type "set", dict := none, data := .set es ep t }) (b : Tb t es) (hs : es.size ≤ t.mask) (hl : t.led = !w.params.followText "set-order") (hp : t.plain = true) (hi : i ≤ es.size)
    (h : Q (((wkOf w S ep es)[i]?).map fun e => (e.2, slAt w t (i + 1))) s) : wpAny (model prog w) A (setNext S (slAt w t i) i ep) Q E s := by
  have hf := tb_fits b hs
  rw [next_eq]
  refine wpAny_bind (wpAny_setState_of ho rfl hf ?_)
  dsimp only
  unfold setsByText
  refine wpAny_bind (wpAny_bind (wpAny_askSetting (wpAny_pure ?_)))
  show wpAny _ _ (if (w.params.followText "set-order") = true then _ else _) _ _ s
  unfold wkOf slAt at h
  unfold slAt
  cases ht : w.params.followText "set-order" with
  | true =>
    rw [ht] at h
    simp only [if_true] at h ⊢
    simp only [bne_self_eq_false, Bool.false_eq_true, if_false]
    unfold setWalk
    refine wpAny_bind (wpAny_bind (wpAny_setState_of ho rfl hf ?_))
    dsimp only
    unfold setsByText
    refine wpAny_bind (wpAny_bind (wpAny_askSetting (wpAny_pure ?_)))
    show wpAny _ _ (if (w.params.followText "set-order") = true then _ else _) _ _ s
    rw [ht]
    simp only [if_true]
    refine wpAny_bind (wpAny_askSetting (wpAny_pure ?_))
    exact wpAny_pure h
  | false =>
    rw [ht] at h hl
    simp only [Bool.false_eq_true, if_false] at h ⊢
    rw [hp, hl]
    simp only [Bool.not_true, Bool.not_false, Bool.false_and, Bool.false_eq_true, if_false]
    refine wpAny_bind (wpAny_pure ?_)
    rw [below_sl b.ris (by rw [b.size]; exact hi)]
    refine wpAny_pure ?_
    rcases Nat.lt_or_ge i es.size with c | c
    · have c' : i < t.place.size := by rw [b.size]; exact c
      have e2 : t.place.getD (i + 1 - 1) 0 = t.place[i] := by simp [Array.getD, c']
      rw [Array.getElem?_eq_getElem c] at h ⊢
      rw [Array.getElem?_eq_getElem c']
      rw [if_neg (by omega), e2] at h
      exact h
    · rw [Array.getElem?_eq_none c] at h ⊢
      exact h
/-- an iterator over the set S -/
def SIter (h : Heap) (it S : Addr) (slot i n ep : Nat) : Prop := ∃ o, h.get? it = some o ∧ o.cls = .type "set_iterator" ∧ o.data = .fields #[.int slot 0, .int i 0, .ref S, .int n 0, .int ep 0]
theorem SIter.typeIs {it S : Addr} {slot i n ep : Nat} (x : SIter s.heap it S slot i n ep) : s.TypeIs (.ref it) "set_iterator" := let ⟨o, ho, hc, _⟩ := x; ⟨o, ho, hc⟩
theorem SIter.mv {h h' : Heap} {it S : Addr} {slot i n ep : Nat} (x : SIter h it S slot i n ep) (e : ∀ o, h.get? it = some o → h'.get? it = some o) : SIter h' it S slot i n ep := let ⟨o, ho, r⟩ := x; ⟨o, e _ ho, r⟩
theorem iter_set {S : Addr} {es : Array (Int × Value)} {ep : Nat} {t : SetTable} {Q : Value → Shared → Prop}
    (ho : s.heap.get? S = some { cls := .type "set", dict := none, data := .set es ep t }) (b : Tb t es) (hs : es.size ≤ t.mask) (hp : t.plain = true)
    (h : Q (.ref s.heap.objs.size) { s with heap := s.heap.push { cls := .type "set_iterator", data := .fields #[.int (slAt w t 0 : Nat) 0, .int (0 : Nat) 0, .ref S, .int es.size 0, .int ep 0] } }) :
    wpAny (model prog w) A (pyIter (.ref S)) Q E s := by
  have hT : s.TypeIs (.ref S) "set" := ⟨_, ho, rfl⟩
  have hf := tb_fits b hs
  refine wpAny_pyIter_slot hT F.slot_set_iter (wpAny_call_entry F.slot_set_iter hT entry_set_iter' ?_ (F.args_set_iter_1 _))
  unfold Builtin.«frozenset.__iter__» Builtin.Frozenset.slot0 slotArgs
  simp only [List.isEmpty_nil, Bool.not_true, Bool.false_eq_true, ↓reduceIte, bind_assoc, List.length_nil, bne_self_eq_false]
  unfold Builtin.Frozenset.addrOf Builtin.Frozenset.sizeOf setEntries
  refine wpAny_bind (wpAny_pure ?_)
  try dsimp only
  refine wpAny_bind (wpAny_pure ?_)
  refine wpAny_bind (wpAny_bind (wpAny_bind (wpAny_setState_of ho rfl hf (wpAny_pure (wpAny_pure ?_)))))
  have hdr : ∀ {Q' : Bool → Shared → Prop}, Q' false s → wpAny (model prog w) A.in1 (setDrawn S) Q' E s := by
    intro Q' q
    unfold setDrawn
    refine wpAny_bind (wpAny_setState_of ho rfl hf ?_)
    dsimp only
    unfold setsByText
    refine wpAny_bind (wpAny_bind (wpAny_askSetting (wpAny_pure ?_)))
    refine wpAny_pure ?_
    have : (!t.plain && decide (es.size > 1)) = false := by rw [hp]; rfl
    show Q' (!w.params.followText "set-order" && (!t.plain && decide (es.size > 1))) s
    rw [this, Bool.and_false]
    exact q
  refine wpAny_bind (hdr ?_)
  simp only [Bool.false_eq_true, if_false]
  refine wpAny_bind (wpAny_pure ?_)
  refine wpAny_bind (wpAny_setEpoch_of ho rfl hf ?_)
  unfold newFields
  refine wpAny_bind (wpAny_newObj_type (wpAny_pure ⟨_, rfl, "set_iterator", _, ⟨_, Heap.get?_push_size _ rfl, rfl⟩, slot_seti_next.lookup, ?_⟩))
  have e0 : slAt w t 0 = 0 := by unfold slAt; split <;> rfl
  rw [e0] at h
  simpa [rawInt] using h
theorem fields_set {h : Heap} {a : Addr} {o : Obj} {vs : Array Value} (ho : h.get? a = some o) (hd : o.data = .fields vs) (f : Array Value → Array Value) :
    ∃ o', (h.update a (Obj.mapFields f)).get? a = some o' ∧ o'.cls = o.cls ∧ o'.data = .fields (f vs) :=
  ⟨_, Heap.get?_update_self _ ho (Obj.isFreed_of_fields (Obj.data_mapFields hd _)), Obj.cls_mapFields .., Obj.data_mapFields hd _⟩
theorem seti_item {it S : Addr} {es : Array (Int × Value)} {ep : Nat} {t : SetTable} {i : Nat} {e : Int × Value} {Q : Option Value → Shared → Prop} (hit : SIter s.heap it S (slAt w t i) i es.size ep)
    (ho : s.heap.get? S = some { cls := .type "set", dict := none, data := .set es ep t }) (b : Tb t es) (hs : es.size ≤ t.mask) (hl : t.led = !w.params.followText "set-order") (hp : t.plain = true) (hi : i < es.size)
    (he : (wkOf w S ep es)[i]? = some e) (hQ : ∀ h', SIter h' it S (slAt w t (i + 1)) (i + 1) es.size ep → Heap.SameBut it s.heap h' → Q (some e.2) { s with heap := h' }) :
    wpAny (model prog w) A (pyNext (.ref it)) Q E s := by
  obtain ⟨o, hoi, hc, hd⟩ := id hit
  have hf := tb_fits b hs
  unfold pyNext
  refine wpAny_bind (wpAny_attempt (wpAny_callSpecial?_slot (name := Str.ofString "__next__") hit.typeIs slot_seti_next
    (wpAny_call_entry slot_seti_next hit.typeIs entry_seti_next ?_ (args_seti_next _))))
  show wpAny _ _ (fieldsOf (.ref it) >>= _) _ _ s
  refine wpAny_bind (wpAny_fieldsOf hoi hd ?_)
  dsimp only
  unfold setEntries
  refine wpAny_bind (wpAny_bind (wpAny_setState_of ho rfl hf (wpAny_pure ?_)))
  dsimp only
  rw [if_neg (by simp)]
  simp only [Int.toNat_natCast]
  refine wpAny_bind (set_next ho b hs hl hp (Nat.le_of_lt hi) ?_)
  rw [he]
  dsimp only [Option.map_some]
  refine wpAny_bind (wpAny_setField hoi hd (by simp) ?_)
  obtain ⟨o1, ho1, hc1, hd1⟩ := fields_set hoi hd (·.setIfInBounds 0 (rawInt (slAt w t (i + 1) : Nat)))
  have sb1 := Heap.SameBut.update s.heap it (Obj.mapFields (·.setIfInBounds 0 (rawInt (slAt w t (i + 1) : Nat))))
  generalize s.heap.update it (Obj.mapFields (·.setIfInBounds 0 (rawInt (slAt w t (i + 1) : Nat)))) = h1 at ho1 sb1 ⊢
  refine wpAny_bind (wpAny_setField (s := { s with heap := h1 }) ho1 hd1 (by simp) ?_)
  obtain ⟨o2, ho2, hc2, hd2⟩ := fields_set ho1 hd1 (·.setIfInBounds 1 (rawInt ((i : Int) + 1)))
  have sb2 := Heap.SameBut.update h1 it (Obj.mapFields (·.setIfInBounds 1 (rawInt ((i : Int) + 1))))
  dsimp only
  generalize h1.update it (Obj.mapFields (·.setIfInBounds 1 (rawInt ((i : Int) + 1)))) = h2 at ho2 sb2 ⊢
  refine wpAny_pure ⟨_, rfl, wpAny_pure (hQ _ ⟨o2, ho2, by rw [hc2, hc1, hc], ?_⟩ (sb1.trans sb2))⟩
  rw [hd2]
  simp [rawInt]
theorem seti_end {it S : Addr} {es : Array (Int × Value)} {ep : Nat} {t : SetTable} {Q : Option Value → Shared → Prop} (hh : A.handled = none) (hit : SIter s.heap it S (slAt w t es.size) es.size es.size ep)
    (ho : s.heap.get? S = some { cls := .type "set", dict := none, data := .set es ep t }) (b : Tb t es) (hs : es.size ≤ t.mask) (hl : t.led = !w.params.followText "set-order") (hp : t.plain = true)
    (hQ : ∀ h', Heap.ExtBut it s.heap h' → Q none { s with heap := h' }) :
    wpAny (model prog w) A (pyNext (.ref it)) Q E s := by
  obtain ⟨o, hoi, hc, hd⟩ := id hit
  have hf := tb_fits b hs
  unfold pyNext
  refine wpAny_bind (wpAny_attempt (wpAny_callSpecial?_slot (name := Str.ofString "__next__") hit.typeIs slot_seti_next
    (wpAny_call_entry slot_seti_next hit.typeIs entry_seti_next ?_ (args_seti_next _))))
  show wpAny _ _ (fieldsOf (.ref it) >>= _) _ _ s
  refine wpAny_bind (wpAny_fieldsOf hoi hd ?_)
  dsimp only
  unfold setEntries
  refine wpAny_bind (wpAny_bind (wpAny_setState_of ho rfl hf (wpAny_pure ?_)))
  dsimp only
  rw [if_neg (by simp)]
  simp only [Int.toNat_natCast]
  refine wpAny_bind (set_next ho b hs hl hp (Nat.le_refl _) ?_)
  rw [Array.getElem?_eq_none (by rw [wk_size]; exact Nat.le_refl _)]
  dsimp only [Option.map_none]
  refine wpAny_bind (wpAny_setField hoi hd (by simp) ?_)
  show wpAny _ _ (newExc (.type "StopIteration") [] >>= _) _ _ _
  refine wpAny_bind ?_
  simp only [newExc, newTuple]
  refine wpAny_bind (wpAny_newObj_type ?_ (by size_fits))
  refine wpAny_bind (m := firstArgMember _ _) (wpAny_of_eq (a := Value.none) (by first | rfl | (simp only [firstArgMember]; rfl)) ?_)
  refine wpAny_newObj_type ?_ (by size_fits)
  simp only [raiseNew]
  refine wpAny_bind (wpAny_handled ?_)
  rw [show A.in1.handled = none from hh]
  refine wpAny_bind (wpAny_pure (wpAny_throw ?_))
  refine wpAny_bind (wpAny_isInstance (T := "StopIteration") (b := true) ⟨_, Heap.get?_push_size _ rfl, rfl⟩ isSubtype_stop ?_)
  exact wpAny_pure (hQ _ (((Heap.SameBut.update ..).extBut.push _).push _))
theorem walk_set (hh : A.handled = none) (I S : Addr) (hne : S ≠ I) {es : Array (Int × Value)} {ep : Nat} {t : SetTable} (b : Tb t es) (hs : es.size ≤ t.mask) (hl : t.led = !w.params.followText "set-order") (hp : t.plain = true) :
    Walks prog w A I [I, S] [I] es.size (fun i v => ∃ e, (wkOf w S ep es)[i]? = some e ∧ v = e.2) (fun i h => SIter h I S (slAt w t i) i es.size ep ∧ h.get? S = some { cls := .type "set", dict := none, data := .set es ep t }) where
  sub := fun b hb => by simp at hb; simp [hb]
  frame := fun _ _ _ st hk => ⟨st.1.mv fun o e => hk I (by simp) o e, hk S (by simp) _ st.2⟩
  item := fun i s Q E hi st hQ => by
    have hi' : i < (wkOf w S ep es).size := by rw [wk_size]; exact hi
    refine seti_item st.1 st.2 b hs hl hp hi (Array.getElem?_eq_getElem hi') fun h' hit' hs' => ?_
    exact hQ _ h' s.toks ⟨_, Array.getElem?_eq_getElem hi', rfl⟩ ⟨hit', hs'.extBut S _ hne st.2⟩ fun b o hb e => hs'.extBut b o (fun h => hb (by simp [h])) e
  done := fun s Q E st hQ => seti_end hh st.1 st.2 b hs hl hp fun h' he' => hQ h' s.toks fun b o hb e => he' b o (fun h => hb (by simp [h])) e
  self := fun _ s _ _ st hQ => by
    refine wpAny_pyIter_slot st.1.typeIs slot_seti_iter (wpAny_call_entry slot_seti_iter st.1.typeIs entry_seti_iter ?_ (args_seti_iter _))
    show wpAny _ _ (ret (.ref I)) _ _ s
    exact wpAny_pure ⟨_, rfl, "set_iterator", _, st.1.typeIs, slot_seti_next.lookup, hQ⟩
end
end L2
/-! ### sorted(set(xs)) -/
namespace L2
open PySem PySem.SetTable PySem.Spec PyProof.Rows PySem.W
section
variable {prog : Program} {w : World} {A : Around} {E : Value → Shared → Prop} {s : Shared}
theorem collect_set {S : Addr} {es : Array (Int × Value)} {ep : Nat} {t : SetTable} {Q : List Value → Shared → Prop} (hh : A.handled = none)
    (ho : s.heap.get? S = some { cls := .type "set", dict := none, data := .set es ep t }) (b : Tb t es) (hs : es.size ≤ t.mask) (hl : t.led = !w.params.followText "set-order") (hp : t.plain = true)
    (hQ : ∀ h' tk vs, (∀ b o, s.heap.get? b = some o → h'.get? b = some o) → s.heap.objs.size ≤ h'.objs.size → vs.Perm (es.toList.map (·.2)) → Q vs { s with heap := h', toks := tk }) :
    wpAny (model prog w) A (collect (.ref S)) Q E s := by
  unfold collect
  refine wpAny_bind (wpAny_runValue (codeAny_builtin F.entry_proto_collect ?_))
  rw [Around.under_plainId F.plain_proto_collect _]
  show wpAny _ A.in1 (newList [] >>= fun l => again (.builtin "list.__iadd__" ⟨[l, .ref S], []⟩)) _ _ s
  refine wpAny_bind (wpAny_newObj_type ?_)
  refine wpAny_pure ⟨plainId_quiet F.plain_list_iadd _, codeAny_builtin F.entry_list_iadd ?_⟩
  rw [Around.under_plainId F.plain_list_iadd _]
  show wpAny _ A.in1 (Builtin.List.listExtendWith (.ref s.heap.objs.size) (.ref S) (.ref s.heap.objs.size)) _ _ _
  have hS : S < s.heap.objs.size := Heap.lt_size ho
  have ho1 : (s.heap.push { cls := .type "list", data := .seq ([] : List Value).toArray }).get? S = some { cls := .type "set", dict := none, data := .set es ep t } := Heap.get?_push_of_some _ ho
  have hT : Shared.TypeIs { s with heap := s.heap.push { cls := .type "list", data := .seq ([] : List Value).toArray } } (.ref S) "set" := ⟨_, ho1, rfl⟩
  unfold Builtin.List.listExtendWith
  refine wpAny_bind (wpAny_typeOf hT ?_)
  have h1 : Builtin.List.listSameRef (.ref s.heap.objs.size) (.ref S) = false := by
    show (s.heap.objs.size == S) = false
    exact beq_eq_false_iff_ne.mpr (Nat.ne_of_gt hS)
  have h2 : (Value.type "set" == Value.type "list") = false := by decide
  have h3 : (Value.type "set" == Value.type "tuple") = false := by decide
  simp only [h1, h2, h3, Bool.or_false, Bool.false_eq_true, if_false]
  refine wpAny_bind (iter_set ho1 b hs hp ?_)
  refine wpAny_bind (wpAny_holding ?_)
  unfold Builtin.List.listLengthHint
  generalize hH : s.heap.push { cls := .type "list", data := .seq ([] : List Value).toArray } = H at ho1 hT ⊢
  have hHs : H.objs.size = s.heap.objs.size + 1 := by rw [← hH, Heap.size_push]
  have hT2 : Shared.TypeIs { s with heap := H.push { cls := .type "set_iterator", data := .fields #[.int (slAt w t 0 : Nat) 0, .int (0 : Nat) 0, .ref S, .int es.size 0, .int ep 0] } } (.ref S) "set" := ⟨_, Heap.get?_push_of_some _ ho1, rfl⟩
  refine wpAny_bind (wpAny_specialOf hT2 F.slot_set_len.lookup ?_)
  wp_delta
  refine wpAny_bind (wpAny_isInstance (b := true) hT2 (by rw [isSubtype_type]; kernel_rfl) ?_)
  show wpAny _ A.in1 (typeOf (.ref S) >>= _) _ _ _
  refine wpAny_bind (wpAny_typeOf hT2 ?_)
  refine wpAny_pure ?_
  rw [if_pos (by decide)]
  refine wpAny_bind (wpAny_rule ?_)
  unfold Builtin.List.listTouch
  have hne : S ≠ H.objs.size := by rw [hHs]; exact Nat.ne_of_lt (Nat.lt_succ_of_lt hS)
  have hI0 : SIter (H.push { cls := .type "set_iterator", data := .fields #[.int (slAt w t 0 : Nat) 0, .int (0 : Nat) 0, .ref S, .int es.size 0, .int ep 0] }) H.objs.size S (slAt w t 0) 0 es.size ep := ⟨_, Heap.get?_push_size _ rfl, rfl, rfl⟩
  have hL : (H.push { cls := .type "set_iterator", data := .fields #[.int (slAt w t 0 : Nat) 0, .int (0 : Nat) 0, .ref S, .int es.size 0, .int ep 0] }).get? s.heap.objs.size = some (seqObj "list" #[] 0) := Heap.get?_push_of_some _ (hH ▸ Heap.get?_push_size _ rfl)
  have hS2 : (H.push { cls := .type "set_iterator", data := .fields #[.int (slAt w t 0 : Nat) 0, .int (0 : Nat) 0, .ref S, .int es.size 0, .int ep 0] }).get? S = some { cls := .type "set", dict := none, data := .set es ep t } := Heap.get?_push_of_some _ ho1
  have hold : ∀ b o, s.heap.get? b = some o → (H.push { cls := .type "set_iterator", data := .fields #[.int (slAt w t 0 : Nat) 0, .int (0 : Nat) 0, .ref S, .int es.size 0, .int ep 0] }).get? b = some o := fun b o e => Heap.get?_push_of_some _ (hH ▸ Heap.get?_push_of_some _ e)
  have hsz : (H.push { cls := .type "set_iterator", data := .fields #[.int (slAt w t 0 : Nat) 0, .int (0 : Nat) 0, .ref S, .int es.size 0, .int ep 0] }).objs.size = s.heap.objs.size + 2 := by rw [Heap.size_push, hHs]
  generalize H.push { cls := .type "set_iterator", data := .fields #[.int (slAt w t 0 : Nat) 0, .int (0 : Nat) 0, .ref S, .int es.size 0, .int ep 0] } = H1 at hI0 hL hS2 hold hsz ⊢
  refine wpAny_bind (wpAny_bind (listUpdate_at (s := { s with heap := H1 }) hL rfl ?_ (Nat.zero_le _) (by decide)))
  have hL1 := get?_update_seq hL (fun x => x.push Value.none)
  have hu1 : ∀ b, b ≠ s.heap.objs.size → (H1.update s.heap.objs.size (Obj.mapSeq fun x => x.push Value.none)).get? b = H1.get? b := (Heap.SameBut.update H1 s.heap.objs.size _).2
  dsimp only
  generalize H1.update s.heap.objs.size (Obj.mapSeq fun x => x.push Value.none) = H2 at hL1 hu1 ⊢
  refine listUpdate_at (s := { s with heap := H2 }) hL1 rfl ?_ (by simp [sizeLine_eq]) (by simp)
  have hL2 := get?_update_seq hL1 (fun x => x.pop)
  have hu2 : ∀ b, b ≠ s.heap.objs.size → (H2.update s.heap.objs.size (Obj.mapSeq fun x => x.pop)).get? b = H2.get? b := (Heap.SameBut.update H2 s.heap.objs.size _).2
  dsimp only
  generalize H2.update s.heap.objs.size (Obj.mapSeq fun x => x.pop) = H3 at hL2 hu2 ⊢
  have hk3 : ∀ b o, b ≠ s.heap.objs.size → H1.get? b = some o → H3.get? b = some o := fun b o hb e => by rw [hu2 b hb, hu1 b hb]; exact e
  have hSf : s.heap.objs.size ∉ [H.objs.size, S] := by
    rw [hHs]
    simp only [List.mem_cons, List.not_mem_nil, or_false, not_or]
    exact ⟨Nat.ne_of_lt (Nat.lt_succ_self _), Nat.ne_of_gt hS⟩
  have hSn : S ≠ s.heap.objs.size := Nat.ne_of_lt hS
  have hHn : H.objs.size ≠ s.heap.objs.size := by rw [hHs]; exact Nat.ne_of_gt (Nat.lt_succ_self _)
  refine wpAny_pure ⟨plainId_quiet F.plain_extend_loop _, codeAny_extend_loopS (walk_set (A := A.in1) (ep := ep) hh H.objs.size S hne b hs hl hp).toS ?_ _ hSf _ es.size 0 _ _ _ rfl (Nat.zero_le _) ⟨hI0.mv fun o e => hk3 _ o hHn e, hk3 S _ hSn hS2⟩ hL2 (ItemsOf.nil _) fun s' acc' c' hm hS' hacc => ?_⟩
  · have : es.size ≤ 127 := by rcases b.mask with e | e | e <;> omega
    rw [sizeLine_eq]; omega
  show wpAny _ A (load s.heap.objs.size >>= _) _ _ s'
  refine wpAny_bind (wpAny_load hS' ?_)
  obtain ⟨h', g', d', tk', os'⟩ := s'
  have eg : g' = s.gens := hm.gens
  have ed : d' = s.drawn := hm.drawn
  have eo : os' = s.os := hm.os
  subst eg; subst ed; subst eo
  refine wpAny_pure (hQ h' tk' acc'.toList (fun b o e => ?_) (Nat.le_of_lt (Heap.lt_size hS')) ?_)
  · have hlt := Heap.lt_size e
    refine hm.heap b o (fun hb => ?_) (hk3 b o (Nat.ne_of_lt hlt) (hold b o e))
    simp only [List.mem_cons, List.not_mem_nil, or_false] at hb
    rcases hb with hb | hb
    · exact absurd hlt (by rw [hb]; exact Nat.lt_irrefl _)
    · rw [hb, hHs] at hlt; exact absurd hlt (Nat.not_lt.mpr (Nat.le_succ _))
  · have : acc'.toList = (wkOf w S ep es).toList.map (·.2) := by
      apply List.ext_getElem?
      intro i
      rw [List.getElem?_map, Array.getElem?_toList, Array.getElem?_toList]
      rcases Nat.lt_or_ge i es.size with c | c
      · have hi : i < acc'.size := by rw [hacc.1]; exact c
        obtain ⟨e, he, hv⟩ := hacc.2 i _ (Array.getElem?_eq_getElem hi)
        rw [Array.getElem?_eq_getElem hi, hv, he]; rfl
      · rw [Array.getElem?_eq_none (by rw [hacc.1]; exact c), Array.getElem?_eq_none (by rw [wk_size]; exact c)]; rfl
    rw [this]
    exact (wk_perm w S ep es).map _
abbrev lsH (h : Heap) (vs : List Value) : Heap := h.push (seqObj "list" vs.toArray 0)
theorem lsH_at (h : Heap) (vs : List Value) : (lsH h vs).get? h.objs.size = some (seqObj "list" vs.toArray 0) := Heap.get?_push_size _ rfl
theorem lsIn_old {h : Heap} {vs : List Value} {b : Addr} {o : Obj} (hb : h.get? b = some o) : (sortIn (lsH h vs) h.objs.size vs).get? b = some o := by
  have hlt : b < h.objs.size := Heap.lt_size hb
  have n0 : b ≠ h.objs.size := Nat.ne_of_lt hlt
  have n1 : b ≠ h.objs.size + 1 := Nat.ne_of_lt (Nat.lt_succ_of_lt hlt)
  have n2 : b ≠ h.objs.size + 1 + 1 := Nat.ne_of_lt (Nat.lt_succ_of_lt (Nat.lt_succ_of_lt hlt))
  rw [Heap.get?_push_ne _ _ _ (by rw [size_push', Heap.size_update, size_push']; exact n2), Heap.get?_push_ne _ _ _ (by rw [Heap.size_update, size_push']; exact n1), Heap.get?_update_ne _ _ _ _ n0, Heap.get?_push_ne _ _ _ n0]
  exact hb
theorem lsOut_old {h : Heap} {vs : List Value} {out : Array Value} {b : Addr} {o : Obj} (hb : h.get? b = some o) : (sortedHeap (lsH h vs) h.objs.size vs out).get? b = some o := by
  unfold sortedHeap
  rw [Heap.get?_update_ne _ _ _ _ (Nat.ne_of_lt (Heap.lt_size hb))]
  exact lsIn_old hb
theorem lsOut_at (h : Heap) (vs : List Value) (out : Array Value) : ∃ e, (sortedHeap (lsH h vs) h.objs.size vs out).get? h.objs.size = some (seqObj "list" out e) := by
  obtain ⟨e1, ho1⟩ : ∃ e1, ((lsH h vs).update h.objs.size (Obj.mapSeq fun _ => (#[] : Array Value))).get? h.objs.size = some (seqObj "list" #[] e1) := ⟨_, get?_update_seq (lsH_at h vs) (fun _ => #[])⟩
  have ho6 : (sortIn (lsH h vs) h.objs.size vs).get? h.objs.size = some (seqObj "list" #[] e1) := by
    rw [Heap.get?_push_ne _ _ _ (by rw [size_push', Heap.size_update, size_push']; exact Nat.ne_of_lt (Nat.lt_succ_of_lt (Nat.lt_succ_self _))), Heap.get?_push_ne _ _ _ (by rw [Heap.size_update, size_push']; exact Nat.ne_of_lt (Nat.lt_succ_self _))]
    exact ho1
  exact ⟨_, get?_update_seq ho6 (fun _ => out)⟩
/-- sorted(v), whatever v is walked over -/
theorem sorted_via {v : Value} {Good : List Value → Shared → Prop} {Q : Value → Shared → Prop} (hcol : wpAny (model prog w) A.in1 (collect v) Good E s)
    (h : ∀ vs s1, Good vs s1 → vs.length < 64 ∧ (vs.length < 2 → Q (.ref s1.heap.objs.size) { s1 with heap := sortedHeap (lsH s1.heap vs) s1.heap.objs.size vs vs.toArray }) ∧
      (2 ≤ vs.length → ∃ (c : Nat → Nat → Bool) (kd : SortKind),
        (∀ (R : SortKind → Shared → Prop) (E : Value → Shared → Prop), R kd { s1 with heap := sortIn (lsH s1.heap vs) s1.heap.objs.size vs } → wpAny (model prog w) A.in1.in1 (keyKind' vs.toArray) R E { s1 with heap := sortIn (lsH s1.heap vs) s1.heap.objs.size vs }) ∧
        (∀ i j, i < vs.length → j < vs.length → ∀ C : Bool → Shared → Prop, C (c i j) { s1 with heap := sortIn (lsH s1.heap vs) s1.heap.objs.size vs } → wpAny (model prog w) A.in1.in1 (keyLt' kd (vs.getD i .none) (vs.getD j .none)) C (fun _ _ => False) { s1 with heap := sortIn (lsH s1.heap vs) s1.heap.objs.size vs }) ∧
        ∀ p, Ord vs.length p → p = krun c (kas_sort vs.length) → Q (.ref s1.heap.objs.size) { s1 with heap := sortedHeap (lsH s1.heap vs) s1.heap.objs.size vs (p.map fun i => vs.getD i .none) })) :
    wpAny (model prog w) A (call (.builtin "sorted") [v]) Q E s := by
  refine Calls.call_function_entry kind_sorted plain_sorted entry_sorted (args_sorted1 _) ?_
  unfold Builtin.«sorted»
  refine wpAny_bind (m := checkCount "sorted" 1 1 _) (wpAny_pure ?_)
  refine wpAny_bind (thn hcol fun vs s1 g => ?_)
  obtain ⟨h64, few, many⟩ := h vs s1 g
  refine wpAny_bind (wpAny_newList ?_ (by rw [sizeLine_eq]; omega))
  show wpAny _ _ _ _ _ { s1 with heap := lsH s1.heap vs }
  by_cases h2 : vs.length < 2
  · refine wpAny_bind (wpAny_holding (wpAny_call_entry slot_list_sort ⟨_, lsH_at s1.heap vs, rfl⟩ entry_list_sort (sort_few (s := { s1 with heap := lsH s1.heap vs }) (lsH_at s1.heap vs) h2 ⟨_, rfl, ?_⟩) (args_list_sort _)))
    exact wpAny_pure ⟨_, rfl, few h2⟩
  · obtain ⟨c, kd, hkd, hc, hq⟩ := many (by omega)
    refine wpAny_bind (wpAny_holding (wpAny_call_entry slot_list_sort ⟨_, lsH_at s1.heap vs, rfl⟩ entry_list_sort (sort_kasC (c := c) (s := { s1 with heap := lsH s1.heap vs }) (lsH_at s1.heap vs) (by omega) h64 (fun R => hkd R _) hc fun p hp hpc => ⟨_, rfl, ?_⟩) (args_list_sort _)))
    exact wpAny_pure ⟨_, rfl, hq p hp hpc⟩
end
section
variable {X : Cx} {pins : List (Addr × Obj)} {σ : St} {H : Hp} {s : Shared}
theorem vals_int : ∀ {xs : List Int} {vs : List Value}, Vals (xs.map V.int) vs → ∀ (prog : Program) (w : World), ItemsAre (intKind prog w) xs vs
  | [], _, .nil, _, _ => .nil
  | x :: xs, _, .cons r1 r2, prog, w => by
    obtain ⟨t, rfl⟩ := r1
    exact .cons (intKind_is prog w x t) (vals_int r2 prog w)
theorem tkey_of (I : Inv X pins σ H s) {a : Addr} {xs : List Int} (h : SqT X.K H a (xs.map V.int)) : IsTupleKey (intKind X.prog X.w) s.heap xs a := by
  obtain ⟨its, r, p, z⟩ := I.tuple h
  obtain ⟨o, ho, hc, n, hd⟩ := p
  exact ⟨o, _, n, ho, hc, hd, vals_int r _ _⟩
theorem hu8_of {A : Around} {k : Nat} (hr : Room k A) : A.units + 8 < cLine := Nat.lt_of_le_of_lt (Nat.add_le_add_left (by decide : 8 ≤ 64) _) hr.units
/-- sorted(set(xs)) of tuples of m ints -/
def rSSet : List V → Hp → VK → Prop := fun vs H Q => ∃ (v : V) (xss : List (List Int)) (m : Nat), vs = [v] ∧ Is H (.l (xss.map tI)) v ∧ 0 < m ∧ (∀ xs ∈ xss, xs.length = m) ∧ xss.length < 64 ∧
  ∀ (yss : List (List Int)) (q : Addr) (H' : Hp), yss.Nodup → (∀ z, z ∈ yss ↔ z ∈ xss) → (∀ i j, i < j → j < yss.length → ltI (yss.getD j []) (yss.getD i []) = false) → H q = none → Same H H' → Is H' (.l (yss.map tI)) (.ref q) → Q (.ref q) H'
/-- what is sorted: a list of tuples of m ints -/
theorem sort_tail (I : Inv X pins σ H s) {rs : List V} {xss : List (List Int)} {m : Nat} {vs : List Value} (hi : Iss H (xss.map tI) rs) (r' : Vals rs vs) (hm : 0 < m) (hne' : ∀ xs ∈ xss, xs.length = m) (hlen : xss.length < 64) {Q : VK}
    (q : ∀ (yss : List (List Int)) (q : Addr) (H' : Hp), yss.Perm xss → (∀ i j, i < j → j < yss.length → ltI (yss.getD j []) (yss.getD i []) = false) → H q = none → Same H H' → Is H' (.l (yss.map tI)) (.ref q) → Q (.ref q) H') (A : Around) :
    vs.length < 64 ∧ (vs.length < 2 → EP X pins σ Q (.ref s.heap.objs.size) { s with heap := sortedHeap (lsH s.heap vs) s.heap.objs.size vs vs.toArray }) ∧
      (2 ≤ vs.length → ∃ (c : Nat → Nat → Bool) (kd : SortKind),
        (∀ (R : SortKind → Shared → Prop) (E : Value → Shared → Prop), R kd { s with heap := sortIn (lsH s.heap vs) s.heap.objs.size vs } → wpAny (model X.prog X.w) A.in1.in1 (keyKind' vs.toArray) R E { s with heap := sortIn (lsH s.heap vs) s.heap.objs.size vs }) ∧
        (∀ i j, i < vs.length → j < vs.length → ∀ C : Bool → Shared → Prop, C (c i j) { s with heap := sortIn (lsH s.heap vs) s.heap.objs.size vs } → wpAny (model X.prog X.w) A.in1.in1 (keyLt' kd (vs.getD i .none) (vs.getD j .none)) C (fun _ _ => False) { s with heap := sortIn (lsH s.heap vs) s.heap.objs.size vs }) ∧
        ∀ p, Ord vs.length p → p = krun c (kas_sort vs.length) → EP X pins σ Q (.ref s.heap.objs.size) { s with heap := sortedHeap (lsH s.heap vs) s.heap.objs.size vs (p.map fun i => vs.getD i .none) }) := by
  have hne : ∀ xs ∈ xss, xs ≠ [] := fun xs hx z => by have := hne' xs hx; rw [z] at this; exact absurd this (by show ¬ 0 = m; omega)
  have hrs : rs.length = xss.length := by rw [hi.length, List.length_map]
  have ln := r'.length
  have lns : vs.length = xss.length := by omega
  refine ⟨by omega, fun h2 => ?_, fun h2 => ⟨ordC xss, tuples' true, fun R E hR => ?_, fun i j hi' hj' C hC => ?_, fun p ho hpc => ?_⟩⟩
  · obtain ⟨e, he⟩ := lsOut_at s.heap vs vs.toArray
    have fr := I.hok.fresh (a := s.heap.objs.size) (Nat.le_refl _)
    exact ⟨.ref s.heap.objs.size, _, I.laid (t' := s.toks) (fun _ _ => lsOut_old) (Nat.le_refl _) (show ObjOk X.prog X.w _ _ _ (.lst rs) from ⟨by rw [sizeLine_eq]; omega, vs, e, r', he⟩), rfl, q xss _ _ (List.Perm.refl _) (fun i j a b => absurd b (by omega)) fr (Same.new fr) (is_l upd_same (hi.mono (Same.new fr)))⟩
  · have I2 : Inv X pins σ H { s with heap := sortIn (lsH s.heap vs) s.heap.objs.size vs } := I.kept (t' := s.toks) fun b o e => lsIn_old e
    obtain ⟨fs, k1, k2, k3⟩ := kat_tups I2 hi r' hne
    exact kat_kind (T := .type "int") k1 (by omega) (fun f hf => by obtain ⟨z, t, rfl⟩ := k3 f hf; exact .now) rfl hR
  · have I2 : Inv X pins σ H { s with heap := sortIn (lsH s.heap vs) s.heap.objs.size vs } := I.kept (t' := s.toks) fun b o e => lsIn_old e
    have g : ∀ i, i < xss.length → ∃ a, vs.getD i .none = .ref a ∧ SqT X.K H a ((xss.getD i []).map V.int) := fun i h => by
      have hr : i < rs.length := by omega
      obtain ⟨d, hd, h1⟩ := hi.of_get (List.getElem?_eq_getElem hr)
      rw [List.getElem?_map, List.getElem?_eq_getElem h] at hd
      cases hd
      obtain ⟨a, ea, ha⟩ := of_tI h1
      obtain ⟨u, hu1, ru⟩ := r'.get (List.getElem?_eq_getElem hr)
      rw [ea] at ru
      obtain rfl : u = Value.ref a := ru
      refine ⟨a, ?_, ?_⟩
      · rw [List.getD_eq_getElem?_getD, hu1]; rfl
      · rw [List.getD_eq_getElem?_getD, List.getElem?_eq_getElem h]
        exact SqT.of ha
    obtain ⟨a1, e1, s1⟩ := g i (by omega)
    obtain ⟨a2, e2, s2⟩ := g j (by omega)
    rw [e1, e2]
    rw [ordC_in (by omega) (by omega)] at hC
    exact key_ints I2 s1 s2 hC
  · rw [lns] at ho hpc
    have hpl : ∀ i ∈ p.toList, i < xss.length := fun i hi => ho.lt hi
    obtain ⟨e, he⟩ := lsOut_at s.heap vs (p.map fun i => vs.getD i .none)
    have en : (p.map fun i => vs.getD i .none) = List.toArray (p.toList.map fun i => vs.getD i .none) := by
      apply Array.toList_inj.mp
      simp
    rw [en] at he ⊢
    have fr := I.hok.fresh (a := s.heap.objs.size) (Nat.le_refl _)
    refine ⟨.ref s.heap.objs.size, _, I.laid (t' := s.toks) (fun _ _ => lsOut_old) (Nat.le_refl _) (show ObjOk X.prog X.w _ _ _ (.lst (p.toList.map fun i => rs.getD i .non)) from ⟨?_, _, e, vals_getD r' p.toList (fun i hi => by rw [hrs]; exact hpl i hi), he⟩), rfl, q (p.toList.map fun i => xss.getD i []) _ _ ?_ ?_ fr (Same.new fr) (is_l upd_same ((iss_getD hi p.toList hpl).mono (Same.new fr)))⟩
    · rw [List.length_map, Array.length_toList, sizeLine_eq, ho.size]
      omega
    · have pp := (Array.perm_iff_toList_perm.mp ho).map fun i => xss.getD i []
      rw [show (List.range xss.length).toArray.toList = List.range xss.length from rfl, map_getD] at pp
      exact pp
    · intro i j hij hj
      rw [List.length_map, Array.length_toList, ho.size] at hj
      have up := krun_sort (ordr_of (xss := xss) (m := m) (by omega) hne') (n := xss.length) (by omega) i j hij hj
      rw [← hpc] at up
      have g : ∀ i, i < xss.length → (p.toList.map fun i => xss.getD i []).getD i [] = xss.getD (at0 p i) [] ∧ at0 p i < xss.length := fun i h => by
        have hs : i < p.size := by rw [ho.size]; exact h
        have e : at0 p i = p[i] := by simp [at0, Array.getD, hs]
        rw [e]
        refine ⟨?_, ho.lt (by simp)⟩
        rw [List.getD_eq_getElem?_getD, List.getElem?_map]
        simp [hs]
      obtain ⟨g1, g2⟩ := g i (by omega)
      obtain ⟨g3, g4⟩ := g j hj
      rw [g1, g3]
      rw [ordC_in g4 g2] at up
      exact up
theorem list_choose {α β : Type} {f : β → α} {P : β → Prop} : ∀ (vs : List α), (∀ v ∈ vs, ∃ j, P j ∧ v = f j) → ∃ js : List β, vs = js.map f ∧ ∀ j ∈ js, P j
  | [], _ => ⟨[], rfl, fun _ h => nomatch h⟩
  | v :: vs, h => by
    obtain ⟨j, pj, e⟩ := h v (by simp)
    obtain ⟨js, es, ps⟩ := list_choose vs fun u hu => h u (by simp [hu])
    exact ⟨j :: js, by rw [e, es]; rfl, fun i hi => by rcases List.mem_cons.mp hi with rfl | hi; exact pj; exact ps i hi⟩
theorem vals_refs (ad : Nat → Addr) : ∀ js : List Nat, Vals (js.map fun j => V.ref (ad j)) (js.map fun j => Value.ref (ad j))
  | [] => .nil
  | j :: js => .cons rfl (vals_refs ad js)
theorem iss_refs {H : Hp} (kk : Nat → List Int) (ad : Nat → Addr) : ∀ js : List Nat, (∀ j ∈ js, H (ad j) = some (.tup ((kk j).map V.int))) → Iss H ((js.map kk).map tI) (js.map fun j => V.ref (ad j))
  | [], _ => iss_nil
  | j :: js, h => iss_cons (is_tI (h j (by simp))) (iss_refs kk ad js fun i hi => h i (by simp [hi]))
/-- what a walk over a set made of n things tells -/
theorem set_told {prog : Program} {w : World} {h' : Heap} {kk : Nat → List Int} {ad : Nat → Addr} {n : Nat} {es : Array (Int × Value)} {vs : List Value} (en : Ent prog w h' es) (mk : Made prog w kk ad n es)
    (hkey : ∀ j, j < n → IsTupleKey (intKind prog w) h' (kk j) (ad j)) (hp : vs.Perm (es.toList.map (·.2))) :
    ∃ js : List Nat, vs = js.map (fun j => Value.ref (ad j)) ∧ (∀ j ∈ js, j < n) ∧ (js.map kk).Nodup ∧ ∀ j, j < n → kk j ∈ js.map kk := by
  have vmem : ∀ v, v ∈ vs ↔ ∃ p g, es[p]? = some (g, v) := fun v => by
    rw [hp.mem_iff, List.mem_map]
    constructor
    · rintro ⟨⟨g, v'⟩, he, rfl⟩
      obtain ⟨p, hp, e⟩ := Array.mem_iff_getElem.mp (Array.mem_toList_iff.mp he)
      exact ⟨p, g, by rw [Array.getElem?_eq_getElem hp, e]⟩
    · rintro ⟨p, g, e⟩
      have hp := get_lt e
      rw [Array.getElem?_eq_getElem hp, Option.some.injEq] at e
      exact ⟨(g, v), by rw [← e]; simp, rfl⟩
  obtain ⟨js, ev, pj⟩ := list_choose (f := fun j => Value.ref (ad j)) (P := fun j => j < n ∧ ∃ p g, es[p]? = some (g, Value.ref (ad j))) vs fun v hv => by
    obtain ⟨p, g, e⟩ := (vmem v).mp hv
    obtain ⟨j, hj, e'⟩ := mk.from_ p _ e
    simp only [Prod.mk.injEq] at e'
    obtain ⟨_, rfl⟩ := e'
    exact ⟨j, ⟨hj, p, g, e⟩, rfl⟩
  have nd : vs.Nodup := by
    rw [hp.nodup_iff]
    unfold List.Nodup
    rw [List.pairwise_map, List.pairwise_iff_getElem]
    intro i j hi hj hij e
    rw [Array.length_toList] at hi hj
    obtain ⟨k, b, e1, q1⟩ := en.ent i hi
    obtain ⟨k', b', e2, q2⟩ := en.ent j hj
    have z1 : es.toList[i].2 = Value.ref b := by
      rw [Array.getElem?_eq_getElem hi, Option.some.injEq] at e1
      simp [e1]
    have z2 : es.toList[j].2 = Value.ref b' := by
      rw [Array.getElem?_eq_getElem hj, Option.some.injEq] at e2
      simp [e2]
    rw [z1, z2, Value.ref.injEq] at e
    subst e
    have := en.dis i j k b b _ _ e1 e2 q1 q1
    omega
  refine ⟨js, ev, fun j hj => (pj j hj).1, ?_, fun j hj => ?_⟩
  · rw [ev] at nd
    unfold List.Nodup at nd ⊢
    rw [List.pairwise_map] at nd ⊢
    refine List.Pairwise.imp_of_mem (fun {a b} ha hb hne e => hne ?_) nd
    obtain ⟨la, p, g, ea⟩ := pj a ha
    obtain ⟨lb, p', g', eb⟩ := pj b hb
    have := en.dis p p' (kk a) _ _ _ _ ea eb (hkey a la) (by rw [e]; exact hkey b lb)
    subst this
    rw [ea] at eb
    simp only [Option.some.injEq, Prod.mk.injEq] at eb
    exact eb.2
  · obtain ⟨p, j', hj', ek, e⟩ := mk.all j hj
    have := (vmem _).mpr ⟨p, _, e⟩
    rw [ev] at this
    obtain ⟨i, hi, ei⟩ := List.mem_map.mp this
    simp only [Value.ref.injEq] at ei
    have q1 := hkey i (pj i hi).1
    rw [ei] at q1
    have := q1.inj (hkey j' hj')
    rw [← ek, ← this]
    exact List.mem_map_of_mem hi
theorem pe_sset {e : Expr} {ta : TA} {p p2 pos pos2 : Pos} (hu : X.A.units + 8 < cLine) (hh : X.A.handled = none) (hg : Gl X "sorted") (hm : X.mg "sorted" = none) (hg2 : Gl X "set") (hm2 : X.mg "set" = none)
    (ha : PA X [e] ta) (he : starEach [e] X.env = (false, eval e X.env) :: starEach [] X.env := by rfl) 
    (he2 : starEach [Expr.Call (.Name "set" p2) [e] [] pos2] X.env = (false, eval (Expr.Call (.Name "set" p2) [e] [] pos2) X.env) :: starEach [] X.env := by rfl) :
    PE X (.Call (.Name "sorted" p) [.Call (.Name "set" p2) [e] [] pos2] [] pos) (tCB rSSet ta) := by
  intro pins s σ H Q I h
  refine wpAny_Call_Name_kw (ld_blt I hg hm (by first | exact boot_sorted | rfl | decide +kernel) ?_ (by decide) (by decide))
  refine PyProof.Rows.callWith_builtin1 ?_ he2 (by rfl)
  rw [he2]
  show wpAny _ _ (spliced ((false, eval (Expr.Call (.Name "set" p2) [e] [] pos2) X.env) :: backTo pos (starEach [] X.env))) _ _ s
  refine Calls.spliced_cons ?_
  refine wpAny_Call_Name_kw (ld_blt I hg2 hm2 (by first | rfl | decide +kernel) ?_ (by decide) (by decide))
  refine PyProof.Rows.callWith_type1 (thn (ha pos2 pins s σ H _ I h) fun us s1 ⟨vs, H1, I1, r1, q1⟩ => ?_) he (by rfl)
  obtain ⟨v, xss, m, rfl, hv, hm', hne', hlen, q⟩ := q1
  obtain ⟨l, rs, rfl, hl, hi⟩ := of_l hv
  have hrs : rs.length = xss.length := by rw [hi.length, List.length_map]
  obtain ⟨u, rfl, rx⟩ := vals1 r1
  cases rx
  obtain ⟨its, r', pl, hz⟩ := I1.list (SqL.of (K := X.K) hl)
  have ln := r'.length
  have g : ∀ i, ∃ a, i < xss.length → its[i]? = some (.ref a) ∧ rs[i]? = some (.ref a) ∧ H1 a = some (.tup ((xss.getD i []).map V.int)) := fun i => by
    by_cases h : i < xss.length
    · have hr : i < rs.length := by omega
      obtain ⟨d, hd, h1⟩ := hi.of_get (List.getElem?_eq_getElem hr)
      rw [List.getElem?_map, List.getElem?_eq_getElem h] at hd
      cases hd
      obtain ⟨a, ea, ha⟩ := of_tI h1
      obtain ⟨u, hu1, ru⟩ := r'.get (List.getElem?_eq_getElem hr)
      rw [ea] at ru
      obtain rfl : u = Value.ref a := ru
      refine ⟨a, fun _ => ⟨hu1, by rw [List.getElem?_eq_getElem hr, ea], ?_⟩⟩
      rw [List.getD_eq_getElem?_getD, List.getElem?_eq_getElem h]
      exact ha
    · exact ⟨0, fun c => absurd c h⟩
  let ad : Nat → Addr := fun i => Classical.choose (g i)
  have hg : ∀ i, i < xss.length → its[i]? = some (.ref (ad i)) ∧ rs[i]? = some (.ref (ad i)) ∧ H1 (ad i) = some (.tup ((xss.getD i []).map V.int)) := fun i hi => Classical.choose_spec (g i) hi
  generalize ad = ad at hg
  refine call_set_tup (kk := fun i => xss.getD i []) (ad := ad) (items := its.toArray) hh (by omega) pl.isList (by rw [List.size_toArray]; omega) (fun i hi => ?_) fun h' tk es hS en mk hk => ?_
  · rw [List.size_toArray] at hi
    have hg' := hg i (by omega)
    exact ⟨by rw [List.getElem?_toArray]; exact hg'.1, tkey_of I1 (SqT.of hg'.2.2)⟩
  · have I2 : Inv X pins σ H1 { s1 with heap := h', toks := tk } := I1.kept fun b o e => hk b o (Heap.lt_size e) e
    refine wpAny_pure ?_
    show wpAny _ _ (call (.builtin "sorted") [.ref s1.heap.objs.size]) _ _ { s1 with heap := h', toks := tk }
    obtain ⟨ep, t, ho, tb, tl, tp, tr⟩ := hS
    refine sorted_via (collect_set (s := { s1 with heap := h', toks := tk }) (A := X.A.in1) hh ho tb (by omega) tl tp fun h'' tk' vs hk' hsz hp => ?_) fun vs s' g => g
    have hkey : ∀ j, j < its.toArray.size → IsTupleKey (intKind X.prog X.w) h' (xss.getD j []) (ad j) := fun j hj => by
      rw [List.size_toArray] at hj
      exact tkey_of I2 (SqT.of (hg j (by omega)).2.2)
    obtain ⟨js, ev, lt, nd, all⟩ := set_told en mk hkey hp
    have I3 : Inv X pins σ H1 { s1 with heap := h'', toks := tk' } := I2.kept hk'
    have lt' : ∀ j ∈ js, j < xss.length := fun j hj => by have := lt j hj; rw [List.size_toArray] at this; omega
    subst ev
    have mem : ∀ z, z ∈ js.map (fun i => xss.getD i []) ↔ z ∈ xss := fun z => by
      constructor
      · intro hz
        obtain ⟨j, hj, rfl⟩ := List.mem_map.mp hz
        rw [List.getD_eq_getElem?_getD, List.getElem?_eq_getElem (lt' j hj)]
        exact List.getElem_mem _
      · intro hz
        obtain ⟨j, hj, e⟩ := List.getElem_of_mem hz
        have := all j (by rw [List.size_toArray]; omega)
        rw [List.getD_eq_getElem?_getD, List.getElem?_eq_getElem hj, e] at this
        exact this
    have bound : (js.map fun i => xss.getD i []).length ≤ xss.length := by
      have e1 : js.length = es.size := by have := hp.length_eq; simpa using this
      have e2 : es.size ≤ its.length := by have := mk.size; simpa using this
      rw [List.length_map]
      omega
    refine sort_tail I3 (rs := js.map fun j => V.ref (ad j)) (xss := js.map fun i => xss.getD i []) (iss_refs _ ad js fun j hj => (hg j (lt' j hj)).2.2) (vals_refs ad js) hm' (fun xs hx => hne' xs ((mem xs).mp hx)) (by omega) (fun yss q' H' pm srt hq sm his => ?_) X.A
    exact q yss q' H' (pm.nodup_iff.mpr nd) (fun z => by rw [pm.mem_iff]; exact mem z) srt hq sm his
end
end L2
/-! ### dicts keyed by tuples: a display of one pair, the walk over the keys, the sum of the values -/
namespace L2
open PySem PySem.Spec PyProof.Rows PySem.W
section
variable {prog : Program} {w : World} {A : Around} {E : Value → Shared → Prop} {s : Shared}
theorem dit_iter {d : Addr} {o : Obj} {es : Array DictEntry} {ep : Nat} {Q : Value → Shared → Prop} (hd : (d == sysModules) = false) (ho : s.heap.get? d = some o) (hc : o.ExactDict) (hdat : o.data = .dict es ep)
    (hQ : Q (.ref s.heap.objs.size) { s with heap := s.heap.push { cls := .type "dict_keyiterator", data := .fields #[.ref d, .int 0 0, .int es.size 0, .int ep 0] } }) :
    wpAny (model prog w) A (pyIter (.ref d)) Q E s := by
  have hT : s.TypeIs (.ref d) "dict" := ⟨o, ho, hc.1⟩
  refine wpAny_pyIter_slot hT PySem.F.slot_dict_iter (wpAny_call_entry PySem.F.slot_dict_iter hT PySem.F.entry_dict_iter ?_ (PySem.F.args_dict_iter_1 _)); unfold Builtin.«dict.__iter__»
  refine wpAny_bind ?_; unfold Builtin.Dict.dictSlotNone
  refine wpAny_bind (wpAny_notOrdered_dict hT ?_); show wpAny _ _ (pure (Value.ref d)) _ _ s
  refine wpAny_pure ?_; show wpAny _ _ (Builtin.Dict.showsAll d >>= _) _ _ s
  unfold Builtin.Dict.showsAll; rw [if_neg (by rw [hd]; exact Bool.false_ne_true)]
  refine wpAny_bind (wpAny_pure ?_); refine wpAny_bind (wpAny_dictEntries ho hdat ?_); refine wpAny_bind (wpAny_dictEpoch ho hdat ?_)
  refine wpAny_bind (wpAny_newObj_type (wpAny_pure ⟨_, rfl, "dict_keyiterator", _, ⟨_, Heap.get?_push_size _ rfl, rfl⟩, PySem.F.slot_dict_keyiterator_next.lookup, ?_⟩)); simpa [rawInt] using hQ
theorem dit_item {it d : Addr} {o : Obj} {es : Array DictEntry} {i ep : Nat} {e : DictEntry} {Q : Option Value → Shared → Prop} (hit : s.heap.IsKeyIter it d i es.size ep) (hod : s.heap.get? d = some o) (hdd : o.data = .dict es ep) (he : es[i]? = some e)
    (hQ : ∀ h', h'.IsKeyIter it d (i + 1) es.size ep → Heap.SameBut it s.heap h' → Q (some e.key) { s with heap := h' }) : wpAny (model prog w) A (pyNext (.ref it)) Q E s := by
  obtain ⟨oi, ho, hc, hd⟩ := id hit
  have hlt : i < es.size := (Array.getElem?_eq_some_iff.mp he).1
  unfold pyNext; refine wpAny_bind (wpAny_attempt (wpAny_callSpecial?_slot (name := Str.ofString "__next__") hit.typeIs PySem.F.slot_dict_keyiterator_next (wpAny_call_entry PySem.F.slot_dict_keyiterator_next hit.typeIs PySem.F.entry_dict_keyiterator_next ?_ (PySem.F.args_dict_keyiterator_next_1 _))))
  refine wpAny_bind (wpAny_pure ?_); refine wpAny_bind ?_; refine wpAny_bind ?_
  first | refine wpAny_bind (wpAny_typeNameOfWhole_keyiter hit.typeIs (wpAny_pure ?_)); skip | refine wpAny_bind (wpAny_typeNameOf_keyiter hit.typeIs (wpAny_pure ?_)); skip
  refine wpAny_bind (wpAny_fieldsOf ho hd ?_); have hown : Builtin.Dict_items.ownsTuple "dict_keyiterator" = false := by decide
  simp only [hown, Bool.false_eq_true, if_false]; show wpAny _ _ (if (Value.ref d == Value.none) = true then _ else _) _ _ s
  rw [if_neg (show ¬ ((Value.ref d == Value.none) = true) from Bool.false_ne_true)]; refine wpAny_bind (wpAny_pure ?_)
  refine wpAny_bind (wpAny_dictEntries hod hdd ?_); rw [if_neg (by simp)]
  refine wpAny_bind (wpAny_pure ?_); refine wpAny_bind (wpAny_dictEpoch hod hdd ?_); rw [if_neg (by simp)]; refine wpAny_pure ?_
  simp only [show ¬ ((i : Int) < 0) from by omega, if_false, Int.toNat_natCast, he]; refine wpAny_bind ?_
  first | refine wpAny_bind (wpAny_typeNameOfWhole_keyiter hit.typeIs (wpAny_pure ?_)); skip | refine wpAny_bind (wpAny_typeNameOf_keyiter hit.typeIs (wpAny_pure ?_)); skip
  refine wpAny_bind (wpAny_isOneOf_keyiter hit.typeIs ?_); show wpAny _ _ (setField (.ref it) 1 (rawInt ((i : Int) + 1)) >>= _) _ _ s
  refine wpAny_bind (wpAny_setField ho hd (by simp) ?_)
  have st' : (s.heap.update it (Obj.mapFields (·.setIfInBounds 1 (rawInt ((i : Int) + 1))))).IsKeyIter it d (i + 1) es.size ep := ⟨_, Heap.get?_update_self _ ho (Obj.isFreed_of_fields (Obj.data_mapFields hd _)), (Obj.cls_mapFields ..).trans hc, by rw [Obj.data_mapFields hd]; simp [rawInt]⟩
  refine wpAny_bind (wpAny_holding ?_); refine wpAny_bind (wpAny_isOneOf_keyiter (s := { s with heap := s.heap.update it (Obj.mapFields (·.setIfInBounds 1 (rawInt ((i : Int) + 1)))) }) st'.typeIs ?_)
  show wpAny _ _ (pure e.key) _ _ _; exact wpAny_pure (wpAny_pure ⟨_, rfl, wpAny_pure (hQ _ st' (Heap.SameBut.update ..))⟩)
theorem dit_end {it d : Addr} {o : Obj} {es : Array DictEntry} {i ep : Nat} {Q : Option Value → Shared → Prop} (hh : A.handled = none) (hit : s.heap.IsKeyIter it d i es.size ep) (hod : s.heap.get? d = some o) (hdd : o.data = .dict es ep) (he : es.size ≤ i)
    (hQ : ∀ h', Heap.ExtBut it s.heap h' → Q none { s with heap := h' }) : wpAny (model prog w) A (pyNext (.ref it)) Q E s := by
  obtain ⟨oi, ho, hc, hd⟩ := id hit
  unfold pyNext; refine wpAny_bind (wpAny_attempt (wpAny_callSpecial?_slot (name := Str.ofString "__next__") hit.typeIs PySem.F.slot_dict_keyiterator_next (wpAny_call_entry PySem.F.slot_dict_keyiterator_next hit.typeIs PySem.F.entry_dict_keyiterator_next ?_ (PySem.F.args_dict_keyiterator_next_1 _))))
  refine wpAny_bind (wpAny_pure ?_); refine wpAny_bind ?_; refine wpAny_bind ?_
  first | refine wpAny_bind (wpAny_typeNameOfWhole_keyiter hit.typeIs (wpAny_pure ?_)); skip | refine wpAny_bind (wpAny_typeNameOf_keyiter hit.typeIs (wpAny_pure ?_)); skip
  refine wpAny_bind (wpAny_fieldsOf ho hd ?_); have hown : Builtin.Dict_items.ownsTuple "dict_keyiterator" = false := by decide
  simp only [hown, Bool.false_eq_true, if_false]; show wpAny _ _ (if (Value.ref d == Value.none) = true then _ else _) _ _ s
  rw [if_neg (show ¬ ((Value.ref d == Value.none) = true) from Bool.false_ne_true)]; refine wpAny_bind (wpAny_pure ?_)
  refine wpAny_bind (wpAny_dictEntries hod hdd ?_); rw [if_neg (by simp)]
  refine wpAny_bind (wpAny_pure ?_); refine wpAny_bind (wpAny_dictEpoch hod hdd ?_); rw [if_neg (by simp)]; refine wpAny_pure ?_
  simp only [show ¬ ((i : Int) < 0) from by omega, if_false, Int.toNat_natCast, Array.getElem?_eq_none he]; refine wpAny_bind ?_
  first | refine wpAny_bind (wpAny_typeNameOfWhole_keyiter hit.typeIs (wpAny_pure ?_)); skip | refine wpAny_bind (wpAny_typeNameOf_keyiter hit.typeIs (wpAny_pure ?_)); skip
  show wpAny _ _ (setField (.ref it) 0 .none >>= _) _ _ s; refine wpAny_bind (wpAny_setField ho hd (by simp) ?_)
  show wpAny _ _ (newExc (.type "StopIteration") [] >>= _) _ _ _; refine wpAny_bind ?_; simp only [newExc, newTuple]
  refine wpAny_bind (wpAny_newObj_type ?_ (by size_fits)); refine wpAny_bind (m := firstArgMember _ _) (wpAny_of_eq (a := Value.none) (by first | rfl | (simp only [firstArgMember]; rfl)) ?_)
  refine wpAny_newObj_type ?_ (by size_fits); simp only [raiseNew]; refine wpAny_bind (wpAny_handled ?_); rw [show A.in1.handled = none from hh]
  refine wpAny_bind (wpAny_pure (wpAny_throw ?_)); refine wpAny_bind (wpAny_isInstance (T := "StopIteration") (b := true) ⟨_, Heap.get?_push_size _ rfl, rfl⟩ isSubtype_stop ?_)
  exact wpAny_pure (hQ _ (((Heap.SameBut.update ..).extBut.push _).push _))
end
section
variable {prog : Program} {w : World} {A : Around} {E : Value → Shared → Prop} {s : Shared}
theorem dv_call {d : Addr} {o : Obj} {Q : Value → Shared → Prop} (hd : (d == sysModules) = false) (ho : s.heap.get? d = some o) (hc : o.ExactDict)
    (hQ : Q (.ref s.heap.objs.size) { s with heap := s.heap.push { cls := .type "dict_values", data := .fields #[.ref d] } }) : wpAny (model prog w) A (call (.builtin "dict.values") [.ref d]) Q E s := by
  have hT : s.TypeIs (.ref d) "dict" := ⟨o, ho, hc.1⟩
  refine wpAny_call_entry PySem.F.slot_dict_values hT PySem.F.entry_dict_values ?_ (PySem.F.args_dict_values_1 _)
  refine wpAny_bind ?_; unfold Builtin.Dict.noArgs; refine wpAny_bind (wpAny_notOrdered_dict hT ?_); show wpAny _ _ (pure d) _ _ s
  refine wpAny_pure ?_; show wpAny _ _ (Builtin.Dict.showsAll d >>= _) _ _ s; unfold Builtin.Dict.showsAll; rw [if_neg (by rw [hd]; exact Bool.false_ne_true)]
  refine wpAny_bind (wpAny_pure ?_); exact wpAny_bind (wpAny_newObj_type (wpAny_pure ⟨_, rfl, hQ⟩))
theorem dv_iter {v d : Addr} {o : Obj} {es : Array DictEntry} {ep : Nat} {Q : Value → Shared → Prop} (hv : s.heap.IsValuesView v d) (ho : s.heap.get? d = some o) (hdat : o.data = .dict es ep)
    (hQ : Q (.ref s.heap.objs.size) { s with heap := s.heap.push { cls := .type "dict_valueiterator", data := .fields #[.ref d, .int 0 0, .int es.size 0, .int ep 0] } }) :
    wpAny (model prog w) A (pyIter (.ref v)) Q E s := by
  obtain ⟨ov, hov, hcv, hdv⟩ := id hv
  refine wpAny_pyIter_slot hv.typeIs PySem.F.slot_dict_values_iter (wpAny_call_entry PySem.F.slot_dict_values_iter hv.typeIs PySem.F.entry_dict_values_iter ?_ (PySem.F.args_dict_values_iter_1 _)); unfold Builtin.«dict_values.__iter__»
  refine wpAny_bind (wpAny_pure ?_); refine wpAny_bind ?_; unfold Builtin.Dict_items.dictOf
  refine wpAny_bind (wpAny_field hov hdv (x := .ref d) rfl (wpAny_pure ?_)); refine wpAny_bind ?_; unfold Builtin.Dict_items.newIterator
  refine wpAny_bind (wpAny_dictEntries ho hdat ?_); refine wpAny_bind (wpAny_dictEpoch ho hdat ?_); have hown : Builtin.Dict_items.ownsTuple "dict_valueiterator" = false := by decide
  simp only [hown, Bool.false_eq_true, if_false]; refine wpAny_newObj_type (wpAny_pure ⟨_, rfl, "dict_valueiterator", _, ⟨_, Heap.get?_push_size _ rfl, rfl⟩, PySem.F.slot_dict_valueiterator_next.lookup, ?_⟩)
  simpa [rawInt] using hQ
theorem dv_item {it d : Addr} {o : Obj} {es : Array DictEntry} {i ep : Nat} {e : DictEntry} {Q : Option Value → Shared → Prop} (hit : s.heap.IsValIter it d i es.size ep) (hod : s.heap.get? d = some o) (hdd : o.data = .dict es ep) (he : es[i]? = some e)
    (hQ : ∀ h', h'.IsValIter it d (i + 1) es.size ep → Heap.SameBut it s.heap h' → Q (some e.val) { s with heap := h' }) : wpAny (model prog w) A (pyNext (.ref it)) Q E s := by
  obtain ⟨oi, ho, hc, hd⟩ := id hit
  have hlt : i < es.size := (Array.getElem?_eq_some_iff.mp he).1
  unfold pyNext; refine wpAny_bind (wpAny_attempt (wpAny_callSpecial?_slot (name := Str.ofString "__next__") hit.typeIs PySem.F.slot_dict_valueiterator_next (wpAny_call_entry PySem.F.slot_dict_valueiterator_next hit.typeIs PySem.F.entry_dict_valueiterator_next ?_ (PySem.F.args_dict_valueiterator_next_1 _))))
  refine wpAny_bind (wpAny_pure ?_); refine wpAny_bind ?_; refine wpAny_bind ?_
  first | refine wpAny_bind (wpAny_typeNameOfWhole_valiter hit.typeIs (wpAny_pure ?_)); skip | refine wpAny_bind (wpAny_typeNameOf_valiter hit.typeIs (wpAny_pure ?_)); skip
  refine wpAny_bind (wpAny_fieldsOf ho hd ?_); have hown : Builtin.Dict_items.ownsTuple "dict_valueiterator" = false := by decide
  simp only [hown, Bool.false_eq_true, if_false]; show wpAny _ _ (if (Value.ref d == Value.none) = true then _ else _) _ _ s
  rw [if_neg (show ¬ ((Value.ref d == Value.none) = true) from Bool.false_ne_true)]; refine wpAny_bind (wpAny_pure ?_)
  refine wpAny_bind (wpAny_dictEntries hod hdd ?_); rw [if_neg (by simp)]
  refine wpAny_bind (wpAny_pure ?_); refine wpAny_bind (wpAny_dictEpoch hod hdd ?_); rw [if_neg (by simp)]; refine wpAny_pure ?_
  simp only [show ¬ ((i : Int) < 0) from by omega, if_false, Int.toNat_natCast, he]; refine wpAny_bind ?_
  first | refine wpAny_bind (wpAny_typeNameOfWhole_valiter hit.typeIs (wpAny_pure ?_)); skip | refine wpAny_bind (wpAny_typeNameOf_valiter hit.typeIs (wpAny_pure ?_)); skip
  refine wpAny_bind (wpAny_isOneOf_valiter hit.typeIs ?_); show wpAny _ _ (setField (.ref it) 1 (rawInt ((i : Int) + 1)) >>= _) _ _ s
  refine wpAny_bind (wpAny_setField ho hd (by simp) ?_)
  have st' : (s.heap.update it (Obj.mapFields (·.setIfInBounds 1 (rawInt ((i : Int) + 1))))).IsValIter it d (i + 1) es.size ep := ⟨_, Heap.get?_update_self _ ho (Obj.isFreed_of_fields (Obj.data_mapFields hd _)), (Obj.cls_mapFields ..).trans hc, by rw [Obj.data_mapFields hd]; simp [rawInt]⟩
  refine wpAny_bind (wpAny_holding ?_); refine wpAny_bind (wpAny_isOneOf_valiter (s := { s with heap := s.heap.update it (Obj.mapFields (·.setIfInBounds 1 (rawInt ((i : Int) + 1)))) }) st'.typeIs ?_)
  refine wpAny_bind (wpAny_isOneOf_valiter (s := { s with heap := s.heap.update it (Obj.mapFields (·.setIfInBounds 1 (rawInt ((i : Int) + 1)))) }) st'.typeIs ?_); show wpAny _ _ (pure e.val) _ _ _
  exact wpAny_pure (wpAny_pure ⟨_, rfl, wpAny_pure (hQ _ st' (Heap.SameBut.update ..))⟩)
theorem dv_end {it d : Addr} {o : Obj} {es : Array DictEntry} {i ep : Nat} {Q : Option Value → Shared → Prop} (hh : A.handled = none) (hit : s.heap.IsValIter it d i es.size ep) (hod : s.heap.get? d = some o) (hdd : o.data = .dict es ep) (he : es.size ≤ i)
    (hQ : ∀ h', Heap.ExtBut it s.heap h' → Q none { s with heap := h' }) : wpAny (model prog w) A (pyNext (.ref it)) Q E s := by
  obtain ⟨oi, ho, hc, hd⟩ := id hit
  unfold pyNext; refine wpAny_bind (wpAny_attempt (wpAny_callSpecial?_slot (name := Str.ofString "__next__") hit.typeIs PySem.F.slot_dict_valueiterator_next (wpAny_call_entry PySem.F.slot_dict_valueiterator_next hit.typeIs PySem.F.entry_dict_valueiterator_next ?_ (PySem.F.args_dict_valueiterator_next_1 _))))
  refine wpAny_bind (wpAny_pure ?_); refine wpAny_bind ?_; refine wpAny_bind ?_
  first | refine wpAny_bind (wpAny_typeNameOfWhole_valiter hit.typeIs (wpAny_pure ?_)); skip | refine wpAny_bind (wpAny_typeNameOf_valiter hit.typeIs (wpAny_pure ?_)); skip
  refine wpAny_bind (wpAny_fieldsOf ho hd ?_); have hown : Builtin.Dict_items.ownsTuple "dict_valueiterator" = false := by decide
  simp only [hown, Bool.false_eq_true, if_false]; show wpAny _ _ (if (Value.ref d == Value.none) = true then _ else _) _ _ s
  rw [if_neg (show ¬ ((Value.ref d == Value.none) = true) from Bool.false_ne_true)]; refine wpAny_bind (wpAny_pure ?_)
  refine wpAny_bind (wpAny_dictEntries hod hdd ?_); rw [if_neg (by simp)]
  refine wpAny_bind (wpAny_pure ?_); refine wpAny_bind (wpAny_dictEpoch hod hdd ?_); rw [if_neg (by simp)]; refine wpAny_pure ?_
  simp only [show ¬ ((i : Int) < 0) from by omega, if_false, Int.toNat_natCast, Array.getElem?_eq_none he]; refine wpAny_bind ?_
  first | refine wpAny_bind (wpAny_typeNameOfWhole_valiter hit.typeIs (wpAny_pure ?_)); skip | refine wpAny_bind (wpAny_typeNameOf_valiter hit.typeIs (wpAny_pure ?_)); skip
  show wpAny _ _ (setField (.ref it) 0 .none >>= _) _ _ s; refine wpAny_bind (wpAny_setField ho hd (by simp) ?_)
  show wpAny _ _ (newExc (.type "StopIteration") [] >>= _) _ _ _; refine wpAny_bind ?_; simp only [newExc, newTuple]
  refine wpAny_bind (wpAny_newObj_type ?_ (by size_fits)); refine wpAny_bind (m := firstArgMember _ _) (wpAny_of_eq (a := Value.none) (by first | rfl | (simp only [firstArgMember]; rfl)) ?_)
  refine wpAny_newObj_type ?_ (by size_fits); simp only [raiseNew]; refine wpAny_bind (wpAny_handled ?_); rw [show A.in1.handled = none from hh]
  refine wpAny_bind (wpAny_pure (wpAny_throw ?_)); refine wpAny_bind (wpAny_isInstance (T := "StopIteration") (b := true) ⟨_, Heap.get?_push_size _ rfl, rfl⟩ isSubtype_stop ?_)
  exact wpAny_pure (hQ _ (((Heap.SameBut.update ..).extBut.push _).push _))
theorem walk_vals (hh : A.handled = none) (I d : Addr) (hne : d ≠ I) {o : Obj} {es : Array DictEntry} {ep : Nat} (hdat : o.data = .dict es ep) :
    Walks prog w A I [I, d] [I] es.size (fun i v => ∃ e, es[i]? = some e ∧ v = e.val) (fun i h => h.IsValIter I d i es.size ep ∧ h.get? d = some o) where
  sub := fun b hb => by simp at hb; simp [hb]
  frame := fun _ _ _ st hk => ⟨st.1.at fun o e => hk I (by simp) o e, hk d (by simp) _ st.2⟩
  item := fun i s Q E hi st hQ => dv_item st.1 st.2 hdat (Array.getElem?_eq_getElem hi) fun h' hit' hs' => hQ _ h' s.toks ⟨_, Array.getElem?_eq_getElem hi, rfl⟩ ⟨hit', hs'.extBut d _ hne st.2⟩ fun b o hb e => hs'.extBut b o (fun h => hb (by simp [h])) e
  done := fun s Q E st hQ => dv_end hh st.1 st.2 hdat (Nat.le_refl _) fun h' he' => hQ h' s.toks fun b o hb e => he' b o (fun h => hb (by simp [h])) e
  self := fun _ _ _ _ st hQ => wpAny_pyIter_valiter st.1 hQ
theorem pre_sum (ns : List Int) : ∀ k, k ≤ ns.length → preSum (fun i => ns.getD i 0) k = (ns.take k).sum
  | 0, _ => by simp [preSum]
  | k + 1, h => by
    have hk : k < ns.length := by omega
    have g : ns.getD k 0 = ns[k] := by simp [List.getD, hk]
    rw [preSum, pre_sum ns k (by omega), List.take_add_one, List.getElem?_eq_getElem hk, List.sum_append]
    show _ + ns.getD k 0 = _ + [ns[k]].sum
    rw [g]
    simp
end
theorem paired_get {α β : Type} {R : α → β → Prop} : ∀ {xs : List α} {ys : List β} {i : Nat} {x : α}, Paired R xs ys → xs[i]? = some x → ∃ y, ys[i]? = some y ∧ R x y
  | _, _, i, x, .nil, h => by simp at h
  | _, _, 0, x, .cons r _, h => by simp at h; subst h; exact ⟨_, rfl, r⟩
  | _, _, i + 1, x, .cons _ t, h => by simp at h; obtain ⟨y, e, r⟩ := paired_get t h; exact ⟨y, by simpa using e, r⟩
/-- the keys of the dict at d, which stays as it is -/
def Itk (d : Addr) (o : Obj) (kvs : List (List Key × V)) : It :=
  ⟨fun i H => H d = some (.frz o (.dT kvs)) ∧ i < kvs.length, fun i H x H' => H' = H ∧ ∃ b k v, x = .ref b ∧ kvs[i]? = some (k, v) ∧ H b = some (.tup (k.map kV)), fun i H => H d = some (.frz o (.dT kvs)) ∧ kvs.length ≤ i⟩
def iDict (td : TE) : TI := fun σ H R => td σ H fun x H1 => ∃ (d : Addr) (kvs : List (List Key × V)), x = .ref d ∧ Rd H1 d (.dT kvs) ∧ ∀ (o : Obj) (H2 : Hp), H2 d = some (.frz o (.dT kvs)) → (∀ b, b ≠ d → H2 b = H1 b) → R (Itk d o kvs) H2
theorem turn_dict {P : Program} {w : World} {K : PySem.W.Frag} {tg : Expr} (d it : Addr) (o : Obj) (kvs : List (List Key × V)) (ep : Nat) (hep : ∀ es' ep', o.data = .dict es' ep' → ep' = ep) : Turn P w K tg (Itk d o kvs) [it] it (fun i h => h.IsKeyIter it d i kvs.length ep) where
  mem := by simp
  obj := fun i h st b hb => by
    have e : b = it := by simpa using hb
    subst e; obtain ⟨o, e, c, d⟩ := st; exact ⟨o, e, fun v z => by rw [d] at z; cases z⟩
  keep := fun i h h' st k => st.at fun o e => k it (by simp) o e
  item := by
    intro X hP hw hK hc i pins s σ H E I hf st hg
    subst hP hw hK
    obtain ⟨hq, hi⟩ := hg
    obtain ⟨ho, z, y, xs, rel, o', es, ep', h1, h2, h3, h4, h5⟩ := (show ObjOk X.prog X.w H s.heap d (.frz o (.dT kvs)) from I.hok d _ hq)
    obtain rfl : o = o' := Option.some.inj (ho.symm.trans h1)
    obtain rfl : ep' = ep := hep _ _ h3
    have hx : kvs[i]? = some kvs[i] := List.getElem?_eq_getElem hi
    obtain ⟨q, hq1, e1, e2, e3⟩ := paired_get rel hx
    have hsz : es.size = kvs.length := by rw [← Array.length_toList, h4, List.length_map, ← Paired.length rel]
    have he : es[i]? = some (entryOfKey (tupleKind (mixKind X.prog X.w)) q) := by rw [← Array.getElem?_toList, h4, List.getElem?_map, hq1]; rfl
    obtain ⟨f0, f1, f2, f3, f4, f5⟩ := hf it (by simp)
    rw [← hsz] at st
    refine dit_item st ho h3 he fun h' st' sb => ?_
    have I1 : Inv X pins σ H { s with heap := h' } := I.turned (t' := s.toks) (fun b o hb e => (sb.2 b hb).trans e) f0 f1 f3 f4 f5
    obtain ⟨oo, e, c, d'⟩ := id st'
    rw [hsz] at st'
    exact ⟨_, rfl, go_of (s := { s with heap := h' }) e c d' (by decide) ⟨.ref q.2.1, H, I1, rfl, ⟨rfl, q.2.1, kvs[i].1, kvs[i].2, rfl, hx, e2⟩, st', fun b hb => (hf b hb).1⟩⟩
  done := by
    intro X hP hw hK hc i pins s σ H E I hf st hg
    subst hP hw hK
    obtain ⟨hq, hi⟩ := hg
    obtain ⟨ho, z, y, xs, rel, o', es, ep', h1, h2, h3, h4, h5⟩ := (show ObjOk X.prog X.w H s.heap d (.frz o (.dT kvs)) from I.hok d _ hq)
    obtain rfl : o = o' := Option.some.inj (ho.symm.trans h1)
    obtain rfl : ep' = ep := hep _ _ h3
    have hsz : es.size = kvs.length := by rw [← Array.length_toList, h4, List.length_map, ← Paired.length rel]
    obtain ⟨f0, f1, f2, f3, f4, f5⟩ := hf it (by simp)
    rw [← hsz] at st
    exact dit_end (I.ok.hd hc) st ho h3 (by omega) fun h' eb => ⟨rfl, I.turned (t' := s.toks) (fun b o hb e => eb b o hb e) f0 f1 f3 f4 f5⟩
  self := fun _ _ _ _ _ st h => wpAny_pyIter_keyiter st h
section
variable {X : Cx} {tg : Expr}
theorem dt_keep {P : Program} {w : World} {H H' : Hp} {h : Heap} {d : Addr} {kvs : List (List Key × V)} (q : ObjOk P w H h d (.dT kvs)) (k : ∀ b ys, H b = some (.tup ys) → H' b = some (.tup ys)) : ObjOk P w H' h d (.dT kvs) := by
  obtain ⟨z, y, xs, rel, r⟩ := q
  exact ⟨z, y, xs, KT.keeps rel fun c ys ec => k c ys ec, r⟩
theorem pi_dict {l : Expr} {tl : TE} (hl : PE X l tl) : PI X tg l (iDict tl) := by
  intro pins s σ H R I h
  refine thn (hl pins s σ H _ I h) fun v s1 ⟨x, H1, I1, r1, q1⟩ => ?_
  obtain ⟨d, kvs, rfl, hq, q⟩ := q1
  cases r1
  have hob : ObjOk X.prog X.w H1 s1.heap d (.dT kvs) := rd_of I1.hok hq
  obtain ⟨z, y, xs, rel, o, es, ep, h1, h2, h3, h4, h5⟩ := id hob
  have hsz : es.size = kvs.length := by rw [← Array.length_toList, h4, List.length_map, ← Paired.length rel]
  obtain ⟨H2, I2, e2, k2⟩ : ∃ H2, Inv X pins σ H2 s1 ∧ H2 d = some (.frz o (.dT kvs)) ∧ ∀ b, b ≠ d → H2 b = H1 b := by
    rcases hq with hq | ⟨o', hq⟩
    · exact ⟨_, d_write (t' := s1.toks) I1 (by rw [hq]; exact True.intro) (Heap.SameBut.refl _ _) ⟨o, h1⟩ (show ObjOk X.prog X.w (upd H1 d (.frz o (.dT kvs))) s1.heap d (.frz o (.dT kvs)) from ⟨h1, dt_keep hob fun b ys e => by rw [upd_ne (ne_of e hq (fun z => nomatch z))]; exact e⟩), upd_same, fun b hb => upd_ne hb⟩
    · obtain ⟨ho', _⟩ := (show ObjOk X.prog X.w H1 s1.heap d (.frz o' (.dT kvs)) from I1.hok d _ hq)
      obtain rfl : o' = o := Option.some.inj (ho'.symm.trans h1)
      exact ⟨H1, I1, hq, fun _ _ => rfl⟩
  refine dit_iter y h1 h2 h3 ?_
  rw [hsz]
  refine ⟨s1.heap.objs.size, [s1.heap.objs.size], _, _, _, rfl, I2.kept (t' := s1.toks) fun b o e => Heap.get?_push_of_some _ e, turn_dict d _ o kvs ep (fun es' ep' e => by rw [h3] at e; cases e; rfl), ⟨_, Heap.get?_push_size _ rfl, rfl, rfl⟩, fun b hb => ?_, q o H2 e2 k2⟩
  have e : b = s1.heap.objs.size := by simpa using hb
  subst e
  exact I2.fpOk (Nat.le_refl _) (I2.hok.fresh (Nat.le_refl _))
/-- a loop over the keys of a dict -/
theorem for_dict {d : Addr} {o : Obj} {kvs : List (List Key × V)} {g : TG} {tb : TS} {D : Ends} {σ : St} {H : Hp} (Pv : Nat → St → Hp → Prop) (h0 : Pv 0 σ H) (hl : ∀ i σ H, i ≤ kvs.length → Pv i σ H → H d = some (.frz o (.dT kvs)))
    (hs : ∀ i k v b σ H, kvs[i]? = some (k, v) → Pv i σ H → H b = some (.tup (k.map kV)) → g (.ref b) σ H fun σ2 H2 => tb { D with nx := Pv (i + 1), ct := Pv (i + 1), bk := D.nx } σ2 H2) (hd : ∀ σ H, Pv kvs.length σ H → D.nx σ H) :
    ∃ W : Nat → Nat → St → Hp → Prop, (∃ m, W 0 m σ H) ∧ ∀ i m σ H, W i m σ H →
      ((Itk d o kvs).stop i H ∧ D.nx σ H) ∨ ((Itk d o kvs).go i H ∧ ∃ N : St → Hp → Prop, (∀ σ' H', N σ' H' → ∃ m', m' < m ∧ W (i + 1) m' σ' H') ∧ ∀ x H', (Itk d o kvs).yld i H x H' → g x σ H' fun σ2 H2 => tb { D with nx := N, ct := N, bk := D.nx } σ2 H2) := by
  refine ⟨fun i m σ H => m = kvs.length - i ∧ i ≤ kvs.length ∧ Pv i σ H, ⟨kvs.length, by simp, Nat.zero_le _, h0⟩, ?_⟩
  rintro i m σ H ⟨rfl, hi, p⟩
  have q := hl i σ H hi p
  by_cases hlt : i < kvs.length
  · refine .inr ⟨⟨q, hlt⟩, Pv (i + 1), fun σ' H' p' => ⟨kvs.length - (i + 1), by omega, rfl, hlt, p'⟩, ?_⟩
    rintro x H' ⟨rfl, b, k, v, rfl, e, hb⟩
    exact hs i k v b σ _ e p hb
  · obtain rfl : i = kvs.length := by omega
    exact .inl ⟨⟨q, Nat.le_refl _⟩, hd σ H p⟩
/-- {k: v}, k a tuple -/
def tDisp1 (tk tv : TE) : TE := fun σ H Q => ∀ p, H p = none → tk σ (upd H p (.dT [])) fun x H1 => tv σ H1 fun y H2 => H2 p = some (.dT []) ∧ ∃ k b, x = .ref b ∧ H2 b = some (.tup (k.map kV)) ∧ Q (.ref p) (upd H2 p (.dT (putK [] k y)))
theorem pe_disp1 {ek ev : Expr} {tk tv : TE} {pos : Pos} (hu : X.A.units + 1 < cLine) (hk : PE X ek tk) (hv : PE X ev tv) : PE X (.Dict [some ek] [ev] pos) (tDisp1 tk tv) := by
  intro pins s σ H Q I q
  have hn := I.hok.fresh (Nat.le_refl s.heap.objs.size)
  have I1 := I.laid (a := s.heap.objs.size) (o := .dT []) (h' := s.heap.push { cls := .type "dict", data := .dict #[] }) (t' := s.toks) (fun _ _ q => Heap.get?_push_of_some _ q) (Nat.le_refl _) (dt_empty s.heap I.big)
  rw [arm_eval_Dict, zip_pairTrees [some ek] [ev] X.env pos rfl rfl, dictDisplay_pairs (pairTrees [some ek] [ev] X.env pos) (by intro z; cases z) (show 1 < 17 by decide)]
  refine wpAny_bind (wpAny_standAt (wpAny_bind ?_)); unfold subDict
  refine wpAny_bind (wpAny_alloc ?_); refine wpAny_bind (wpAny_holding ?_); rw [if_pos (show (pairTrees [some ek] [ev] X.env pos).length ≤ 15 from (by decide : 1 ≤ 15))]
  refine wpAny_bind (pairTrees_cons_walk (thn (hk pins _ σ _ _ I1 (q _ hn)) fun u s1 ⟨x, H1, I2, rx, q1⟩ => thn (hv pins s1 σ H1 _ I2 q1) fun w2 s2 ⟨y, H2, I3, ry, e, k, b, ex, eb, q2⟩ => pairTrees_nil_walk ?_))
  subst ex
  cases (show u = Value.ref b from rx)
  obtain ⟨z, hd, xs, rel, dd⟩ := dt_of I3.hok e
  cases rel
  refine wpAny_holding (wpAny_bind ?_); rw [List.forIn_cons]; dsimp only
  refine wpAny_bind (wpAny_bind (wpAny_dictSet_heap (knd := tupleKind (mixKind X.prog X.w)) (show X.A.units < cLine by omega) (key_of I3.hok eb) dd (fun h' dd' hs => wpAny_pure ?_) (Nat.zero_le _)))
  dsimp only; rw [List.forIn_nil]; refine wpAny_pure (wpAny_pure (wpAny_pure (wpAny_pure ?_)))
  obtain ⟨o, es, ep, hq, h2, h3, h4, _, h5⟩ := dd'
  refine ⟨.ref s.heap.objs.size, _, d_write I3 (by rw [e]; exact True.intro) hs ⟨o, hq⟩ (show ObjOk X.prog X.w (upd H2 s.heap.objs.size (.dT (putK [] k y))) h' s.heap.objs.size (.dT (putK [] k y)) from ⟨(by show 1 ≤ sizeLine; decide), hd, _, KT.keeps (KT.put .nil k eb ry) fun c ys ec => ?_, o, es, ep, hq, h2, h3, h4, h5⟩), rfl, q2⟩
  rw [upd_ne (ne_of ec e (fun z => nomatch z))]
  exact ec
/-- sum(d.values()) of ints -/
def tSumV (td : TE) : TE := fun σ H Q => td σ H fun x H1 => ∃ (d : Addr) (kvs : List (List Key × V)) (ns : List Int), x = .ref d ∧ Rd H1 d (.dT kvs) ∧ kvs.map (·.2) = ns.map V.int ∧ Q (.int ns.sum) H1
theorem pe_sumv {e : Expr} {td : TE} {p apos cpos pos : Pos} (hc : X.calm = true) (hg : Gl X "sum") (hm : X.mg "sum" = none) (he : PE X e td)
    (he2 : starEach [Expr.Call (.Attribute e "values" apos) [] [] cpos] X.env = (false, eval (Expr.Call (.Attribute e "values" apos) [] [] cpos) X.env) :: starEach [] X.env := by rfl)
    (hbase : attributeBase e "values" X.env (eval e X.env) = eval e X.env := by rfl) (hline : (apos.endLine == cpos.line) = true := by rfl) :
    PE X (.Call (.Name "sum" p) [.Call (.Attribute e "values" apos) [] [] cpos] [] pos) (tSumV td) := by
  intro pins s σ H Q I h
  refine wpAny_Call_Name_kw (ld_blt I hg hm (by first | exact boot_sum | rfl | decide +kernel) ?_ (by decide) (by decide)); refine PyProof.Rows.callWith_builtin1 ?_ he2 (by rfl); rw [he2]
  show wpAny _ _ (spliced ((false, eval (Expr.Call (.Attribute e "values" apos) [] [] cpos) X.env) :: backTo pos (starEach [] X.env))) _ _ s; refine Calls.spliced_cons ?_
  refine wpAny_Call_method0_late hbase hline (thn (he pins s σ H _ I h) fun v s1 ⟨x, H1, I1, r1, q1⟩ => ?_)
  obtain ⟨d, kvs, ns, rfl, hrd, hns, q⟩ := q1
  cases r1
  obtain ⟨hT, hdi, hsys⟩ := isD_at I1 (.inr ⟨kvs, hrd⟩)
  obtain ⟨z, y, xs, rel, o, es, ep, h1, h2, h3, h4, h5⟩ := (show ObjOk X.prog X.w H1 s1.heap d (.dT kvs) from rd_of I1.hok hrd)
  refine ⟨"dict", "dict.values", PySem.F.plainAttrs_dict, PySem.F.slot_dict_values, PySem.F.type_dict_values, hT, hdi, Calls.callWith_builtin rfl (PySem.evalArgs_none (dv_call hsys h1 h2 (wpAny_pure ?_)))⟩
  show wpAny _ _ (call (.builtin "sum") [.ref s1.heap.objs.size]) _ _ _
  have h1' : (s1.heap.push { cls := .type "dict_values", data := .fields #[.ref d] }).get? d = some o := Heap.get?_push_of_some _ h1
  have hdl : d < s1.heap.objs.size := Heap.lt_size h1
  have hsz : es.size = kvs.length := by rw [← Array.length_toList, h4, List.length_map, ← Paired.length rel]
  have hnl : ns.length = kvs.length := by have := congrArg List.length hns; simpa using this.symm
  refine call_sum_walkAnyS (dv_iter (s := { s1 with heap := s1.heap.push { cls := .type "dict_values", data := .fields #[.ref d] } }) ⟨_, Heap.get?_push_size _ rfl, rfl, rfl⟩ h1' h3 ?_)
  refine ⟨_, _, _, _, _, _, _, fun i => ns.getD i 0, rfl, (walk_vals (A := X.A.in1) (I.ok.hd hc) (s1.heap.push { cls := .type "dict_values", data := .fields #[.ref d] }).objs.size d (by rw [Heap.size_push]; exact Nat.ne_of_lt (Nat.lt_succ_of_lt hdl)) h3).toS, ⟨⟨_, Heap.get?_push_size _ rfl, rfl, rfl⟩, Heap.get?_push_of_some _ h1'⟩, ?_, ?_, ?_⟩
  · intro b hb
    simp only [List.mem_cons, List.not_mem_nil, or_false] at hb
    rcases hb with rfl | rfl
    · show _ < (Heap.push (s1.heap.push _) _).objs.size
      rw [Heap.size_push (s1.heap.push _)]; exact Nat.lt_succ_self _
    · show _ < (Heap.push (s1.heap.push _) _).objs.size
      rw [Heap.size_push, Heap.size_push]; exact Nat.lt_succ_of_lt (Nat.lt_succ_of_lt hdl)
  · rintro i v ⟨e, hei, rfl⟩
    rw [← Array.getElem?_toList, h4, List.getElem?_map] at hei
    obtain ⟨q', hq', rfl⟩ := Option.map_eq_some_iff.mp hei
    have hi : i < kvs.length := by rw [Paired.length rel]; exact (List.getElem?_eq_some_iff.mp hq').1
    obtain ⟨q2, hq2, e1, e2, e3⟩ := paired_get rel (List.getElem?_eq_getElem hi)
    rw [hq'] at hq2
    cases hq2
    have : kvs[i].2 = V.int (ns.getD i 0) := by
      have z1 : (kvs.map (·.2))[i]? = some kvs[i].2 := by rw [List.getElem?_map, List.getElem?_eq_getElem hi]; rfl
      rw [hns, List.getElem?_map, List.getElem?_eq_getElem (by omega)] at z1
      simp only [Option.map_some, Option.some.injEq] at z1
      rw [← z1, List.getD_eq_getElem?_getD, List.getElem?_eq_getElem (by omega)]
      rfl
    rw [this] at e3
    exact e3
  · intro s' t' hm'
    obtain ⟨h', g', d', tk', os'⟩ := s'
    have eg : g' = s1.gens := hm'.gens
    have ed : d' = s1.drawn := hm'.drawn
    have eo : os' = s1.os := hm'.os
    subst eg; subst ed; subst eo
    have es : preSum (fun i => ns.getD i 0) es.size = ns.sum := by rw [hsz, ← hnl, pre_sum ns ns.length (Nat.le_refl _), List.take_length]
    rw [es]
    refine ⟨.int ns.sum, H1, I1.kept fun b o e => hm'.heap b o (fun hb => ?_) (Heap.get?_push_of_some _ (Heap.get?_push_of_some _ e)), ⟨t', rfl⟩, q⟩
    simp only [List.mem_cons, List.not_mem_nil, or_false] at hb
    have := Heap.lt_size e
    rw [hb, Heap.size_push] at this
    exact absurd this (Nat.not_lt.mpr (Nat.le_succ _))
end
end L2
/-! ### tuples cut and joined, told by contents; what keeps lists and tuples -/
namespace L2
open PySem PySem.Spec PyProof.Rows
section
variable {X : Cx}
theorem op_catA : OpR X (binaryOp .Add) (fun x y H Q => ∃ xs ys, Is H (.t xs) x ∧ Is H (.t ys) y ∧ xs.length + ys.length ≤ sizeLine ∧ ∀ v H2, Same H H2 → Is H2 (.t (xs ++ ys)) v → Q v H2) := by
  intro pins s σ H x y v u Q I rx ry h
  obtain ⟨xs, ys, hx, hy, hz, q⟩ := h
  obtain ⟨a, vs, rfl, ha, ra⟩ := of_t hx
  obtain ⟨b, ws, rfl, hb, rb⟩ := of_t hy
  have l1 := ra.length
  have l2 := rb.length
  by_cases h1 : vs = []
  · subst h1
    have hx0 : xs = [] := List.length_eq_zero_iff.mp (by rw [← l1]; rfl)
    subst hx0
    cases rx
    cases ry
    obtain ⟨its, r1, p1, _⟩ := I.tuple (SqT.of (K := X.K) ha)
    obtain ⟨its2, r2, p2, _⟩ := I.tuple (SqT.of (K := X.K) hb)
    cases r1
    obtain ⟨⟨cls, dd, data, sl⟩, ho, hc, n, hd⟩ := p1
    obtain ⟨⟨cls2, dd2, data2, sl2⟩, ho2, hc2, n2, hd2⟩ := p2
    simp only at hc hd hc2 hd2
    subst hc hd hc2 hd2
    exact concat_meets ⟨_, ho, rfl⟩ ⟨_, ho2, rfl⟩ noFill_tuple_add seq_tuple_add PySem.F.slot_tuple_add PySem.F.entry_tuple_add (PySem.F.args_tuple_add_2 _ _) (tuple_addW0 a b _ _ n n2 dd dd2 sl sl2 (by simp)) ⟨ho, ho2, ⟨.ref b, H, I, rfl, q _ H (Same.refl H) hy⟩⟩
  · refine op_catT pins s σ H (.ref a) (.ref b) v u Q I rx ry ⟨a, b, vs, ws, rfl, rfl, SqT.of ha, SqT.of hb, h1, by omega, fun e => ?_, fun _ p np => ?_⟩
    · have : ys = [] := List.length_eq_zero_iff.mp (by rw [← l2, e]; rfl)
      subst this
      exact q _ H (Same.refl H) (by rw [List.append_nil]; exact hx)
    · exact q _ _ (Same.new np) (is_t upd_same ((ra.append rb).mono (Same.new np)))
theorem sl_tupN : SlR X (fun x lo hi H Q => ∃ xs xs', Is H (.t xs) x ∧ (∀ (H' : Hp) (vs : List V), Iss H' xs vs → Iss H' xs' (cutV vs lo hi)) ∧ (∀ vs : List V, vs.length = xs.length → (HT.sIx vs.length 0 lo = 0 ∧ HT.sIx vs.length vs.length hi = vs.length) → xs' = xs) ∧ ∀ v H2, Same H H2 → Is H2 (.t xs') v → Q v H2) := by
  intro pins s σ H x v vl vu lo hi sl Q I rx hs pl pu h
  obtain ⟨xs, xs', hx, hc, hw, q⟩ := h
  obtain ⟨a, vs, rfl, ha, ra⟩ := of_t hx
  refine sl_tupA pins s σ H (.ref a) v vl vu lo hi sl Q I rx hs pl pu ⟨a, vs, rfl, SqT.of ha, fun e => ?_, fun e p np => ?_⟩
  · have := hw vs ra.length e
    subst this
    exact q _ H (Same.refl H) hx
  · exact q _ _ (Same.new np) (is_t upd_same ((hc _ _ ra).mono (Same.new np)))
end
/-- the lists and the tuples stay -/
def LTS (H H' : Hp) : Prop := (∀ b xs, H b = some (.lst xs) → H' b = some (.lst xs)) ∧ ∀ b xs, H b = some (.tup xs) → H' b = some (.tup xs)
/-- a dict is written -/
theorem LTS.dict {H : Hp} {d : Addr} {kvs : List (List Key × V)} {o : HO} (h : H d = some (.dT kvs)) : LTS H (upd H d o) :=
  ⟨fun b xs e => by rw [upd_ne (by rintro rfl; rw [h] at e; cases e)]; exact e, fun b xs e => by rw [upd_ne (by rintro rfl; rw [h] at e; cases e)]; exact e⟩
theorem LTS.rd {H H' : Hp} {d : Addr} {kvs : List (List Key × V)} (h : Rd H d (.dT kvs)) (k : ∀ b, b ≠ d → H' b = H b) : LTS H H' := by
  have nd : ∀ b o, H b = some o → (∀ kvs, o ≠ .dT kvs) → (∀ ob u, o ≠ .frz ob u) → b ≠ d := by
    rintro b o e n1 n2 rfl
    rcases h with h | ⟨ob, h⟩
    · rw [h] at e; cases e; exact n1 _ rfl
    · rw [h] at e; cases e; exact n2 _ _ rfl
  exact ⟨fun b xs e => by rw [k b (nd b _ e (fun _ z => nomatch z) fun _ _ z => nomatch z)]; exact e, fun b xs e => by rw [k b (nd b _ e (fun _ z => nomatch z) fun _ _ z => nomatch z)]; exact e⟩
mutual
theorem Is.lts {H H' : Hp} (s : LTS H H') : ∀ {d : D} {v : V}, Is H d v → Is H' d v
  | .i _, _, h => by rw [of_i h]; exact is_i
  | .l xs, _, h => by
    obtain ⟨a, vs, e, q, r⟩ := of_l h
    rw [e]
    exact is_l (s.1 _ _ q) (Iss.lts s r)
  | .t xs, _, h => by
    obtain ⟨a, vs, e, q, r⟩ := of_t h
    rw [e]
    exact is_t (s.2 _ _ q) (Iss.lts s r)
theorem Iss.lts {H H' : Hp} (s : LTS H H') : ∀ {xs : List D} {vs : List V}, Iss H xs vs → Iss H' xs vs
  | [], _, h => by rw [of_nil h]; exact iss_nil
  | x :: xs, _, h => by
    obtain ⟨u, us, e, q, r⟩ := of_cons h
    rw [e]
    exact iss_cons (Is.lts s q) (Iss.lts s r)
end
end L2
namespace Mine
open PySem L2 PyProof.Rows
def top (i : Nat) : Stmt := PySem.Challenge.pw_floorcurves_k34_beyond_the_wide_bounds.main.body.getD i (.Pass ⟨0, 0, 0, 0⟩)
abbrev s_is_whole : Stmt := top 9
theorem sc_is_whole : FnScope ["thing"] ["thing"] (defScope s_is_whole) := ⟨rfl, rfl, rfl, by decide +kernel, rfl, by decide +kernel, by decide +kernel⟩
abbrev s_need_between : Stmt := top 10
theorem sc_need_between : FnScope ["thing", "least", "greatest"] ["thing", "least", "greatest"] (defScope s_need_between) := ⟨rfl, rfl, rfl, by decide +kernel, rfl, by decide +kernel, by decide +kernel⟩
abbrev s_need_wide : Stmt := top 11
theorem sc_need_wide : FnScope ["d", "k"] ["d", "k"] (defScope s_need_wide) := ⟨rfl, rfl, rfl, by decide +kernel, rfl, by decide +kernel, by decide +kernel⟩
abbrev s_need_degree : Stmt := top 12
theorem sc_need_degree : FnScope ["d"] ["d"] (defScope s_need_degree) := ⟨rfl, rfl, rfl, by decide +kernel, rfl, by decide +kernel, by decide +kernel⟩
abbrev s_gathered : Stmt := top 14
theorem sc_gathered : FnScope ["things", "pairs", "standing", "thing", "one", "other", "kept", "left"] ["things", "pairs"] (defScope s_gathered) := ⟨rfl, rfl, rfl, by decide +kernel, rfl, by decide +kernel, by decide +kernel⟩
abbrev s_how_many_sets : Stmt := top 15
theorem sc_how_many_sets : FnScope ["things", "pairs", "standing"] ["things", "pairs"] (defScope s_how_many_sets) := ⟨rfl, rfl, rfl, by decide +kernel, rfl, by decide +kernel, by decide +kernel⟩
abbrev s_ends_at : Stmt := top 17
theorem sc_ends_at : FnScope ["d", "drawing", "ends", "i", "j", "w"] ["d", "drawing"] (defScope s_ends_at) := ⟨rfl, rfl, rfl, by decide +kernel, rfl, by decide +kernel, by decide +kernel⟩
abbrev s_sound : Stmt := top 18
theorem sc_sound : FnScope ["d", "drawing"] ["d", "drawing"] (defScope s_sound) := ⟨rfl, rfl, rfl, by decide +kernel, rfl, by decide +kernel, by decide +kernel⟩
abbrev s_lost : Stmt := top 19
theorem sc_lost : FnScope ["lift"] ["lift"] (defScope s_lost) := ⟨rfl, rfl, rfl, by decide +kernel, rfl, by decide +kernel, by decide +kernel⟩
abbrev s_lifts_from : Stmt := top 20
theorem sc_lifts_from : FnScope ["d", "floor", "weight", "spare", "found", "j", "w"] ["d", "floor", "weight", "spare"] (defScope s_lifts_from) := ⟨rfl, rfl, rfl, by decide +kernel, rfl, by decide +kernel, by decide +kernel⟩
abbrev s_leaving : Stmt := top 21
theorem sc_leaving : FnScope ["lifts", "weight", "spare", "found", "place", "lift", "rest"] ["lifts", "weight", "spare"] (defScope s_leaving) := ⟨rfl, rfl, rfl, by decide +kernel, rfl, by decide +kernel, by decide +kernel⟩
abbrev s_with_floor : Stmt := top 22
theorem sc_with_floor : FnScope ["d", "floor", "drawing", "spare", "there", "found", "lifts", "ends", "left"] ["d", "floor", "drawing", "spare"] (defScope s_with_floor) := ⟨rfl, rfl, rfl, by decide +kernel, rfl, by decide +kernel, by decide +kernel⟩
abbrev s_drawings : Stmt := top 23
theorem sc_drawings : FnScope ["d", "k", "begun", "floor", "longer", "drawing", "spare"] ["d", "k"] (defScope s_drawings) := ⟨rfl, rfl, rfl, by decide +kernel, rfl, by decide +kernel, by decide +kernel⟩
abbrev s_parts : Stmt := top 24
theorem sc_parts : FnScope ["d", "drawing"] ["d", "drawing"] (defScope s_parts) := ⟨rfl, rfl, rfl, by decide +kernel, rfl, by decide +kernel, by decide +kernel⟩
abbrev s_worth : Stmt := top 25
theorem sc_worth : FnScope ["drawing", "product", "lift"] ["drawing"] (defScope s_worth) := ⟨rfl, rfl, rfl, by decide +kernel, rfl, by decide +kernel, by decide +kernel⟩
abbrev s_choose : Stmt := top 27
theorem sc_choose : FnScope ["number", "chosen", "found", "place"] ["number", "chosen"] (defScope s_choose) := ⟨rfl, rfl, rfl, by decide +kernel, rfl, by decide +kernel, by decide +kernel⟩
abbrev s_with_more : Stmt := top 29
theorem sc_with_more : FnScope ["numbers", "place", "more"] ["numbers", "place", "more"] (defScope s_with_more) := ⟨rfl, rfl, rfl, by decide +kernel, rfl, by decide +kernel, by decide +kernel⟩
abbrev s_need_sound : Stmt := top 31
theorem sc_need_sound : FnScope ["d", "drawing"] ["d", "drawing"] (defScope s_need_sound) := ⟨rfl, rfl, rfl, by decide +kernel, rfl, by decide +kernel, by decide +kernel⟩
abbrev s_end_marks : Stmt := top 32
theorem sc_end_marks : FnScope ["d", "drawing", "found", "place", "number"] ["d", "drawing"] (defScope s_end_marks) := ⟨rfl, rfl, rfl, by decide +kernel, rfl, by decide +kernel, by decide +kernel⟩
abbrev s_put_between : Stmt := top 33
theorem sc_put_between : FnScope ["numbers", "first", "last", "alike", "found", "here", "choices", "fuller", "others"] ["numbers", "first", "last", "alike"] (defScope s_put_between) := ⟨rfl, rfl, rfl, by decide +kernel, rfl, by decide +kernel, by decide +kernel⟩
abbrev s_how_many_orders : Stmt := top 34
theorem sc_how_many_orders : FnScope ["d", "marks", "known", "mark", "fuller", "numbers", "further", "choices"] ["d", "marks"] (defScope s_how_many_orders) := ⟨rfl, rfl, rfl, by decide +kernel, rfl, by decide +kernel, by decide +kernel⟩
abbrev s_how_many : Stmt := top 35
theorem sc_how_many : FnScope ["d", "drawing"] ["d", "drawing"] (defScope s_how_many) := ⟨rfl, rfl, rfl, by decide +kernel, rfl, by decide +kernel, by decide +kernel⟩
abbrev s_may_stand : Stmt := top 36
abbrev s_without_first : Stmt := top 37
abbrev s_orders : Stmt := top 38
abbrev s_all_marks : Stmt := top 39
abbrev s_markings : Stmt := top 40
abbrev s_count_by_floors : Stmt := top 41
theorem sc_count_by_floors : FnScope ["d", "k"] ["d", "k"] (defScope s_count_by_floors) := ⟨rfl, rfl, rfl, by decide +kernel, rfl, by decide +kernel, by decide +kernel⟩
abbrev s_whole_by_floors : Stmt := top 42
theorem sc_whole_by_floors : FnScope ["d", "k", "whole"] ["d", "k"] (defScope s_whole_by_floors) := ⟨rfl, rfl, rfl, by decide +kernel, rfl, by decide +kernel, by decide +kernel⟩
abbrev s_paper : Stmt := top 44
theorem sc_paper : FnScope ["d", "k", "found", "drawing"] ["d", "k"] (defScope s_paper) := ⟨rfl, rfl, rfl, by decide +kernel, rfl, by decide +kernel, by decide +kernel⟩
abbrev s__law_cell_at : Stmt := top 46
theorem sc__law_cell_at : FnScope ["_law_script", "_law_k"] ["_law_script", "_law_k"] (defScope s__law_cell_at) := ⟨rfl, rfl, rfl, by decide +kernel, rfl, by decide +kernel, by decide +kernel⟩
abbrev s__law_bag : Stmt := top 47
theorem sc__law_bag : FnScope ["_law_cell", "_law_place", "_law_far"] ["_law_cell", "_law_place"] (defScope s__law_bag) := ⟨rfl, rfl, rfl, by decide +kernel, rfl, by decide +kernel, by decide +kernel⟩
abbrev s__law_mixed : Stmt := top 48
theorem sc__law_mixed : FnScope ["_law_bag_here"] ["_law_bag_here"] (defScope s__law_mixed) := ⟨rfl, rfl, rfl, by decide +kernel, rfl, by decide +kernel, by decide +kernel⟩
abbrev s__law_digit : Stmt := top 49
theorem sc__law_digit : FnScope ["_law_bag_here", "_law_many", "_law_found", "_law_k"] ["_law_bag_here", "_law_many"] (defScope s__law_digit) := ⟨rfl, rfl, rfl, by decide +kernel, rfl, by decide +kernel, by decide +kernel⟩
abbrev s__law_ask : Stmt := top 50
theorem sc__law_ask : FnScope ["_law_what", "_law_d", "_law_k"] ["_law_what", "_law_d", "_law_k"] (defScope s__law_ask) := ⟨rfl, rfl, rfl, by decide +kernel, rfl, by decide +kernel, by decide +kernel⟩
abbrev s__law_refused : Stmt := top 51
theorem sc__law_refused : FnScope ["_law_what", "_law_d", "_law_k", "e"] ["_law_what", "_law_d", "_law_k"] (defScope s__law_refused) := ⟨rfl, rfl, rfl, by decide +kernel, rfl, by decide +kernel, by decide +kernel⟩
abbrev s__law_odd_pair : Stmt := top 52
theorem sc__law_odd_pair : FnScope ["_law_bag_here", "_law_d", "_law_k", "_law_far", "_law_odd", "_law_way"] ["_law_bag_here", "_law_d", "_law_k"] (defScope s__law_odd_pair) := ⟨rfl, rfl, rfl, by decide +kernel, rfl, by decide +kernel, by decide +kernel⟩
abbrev s__law_told : Stmt := top 53
theorem sc__law_told : FnScope ["_law_what", "_law_d", "_law_k", "_law_found"] ["_law_what", "_law_d", "_law_k"] (defScope s__law_told) := ⟨rfl, rfl, rfl, by decide +kernel, rfl, by decide +kernel, by decide +kernel⟩
abbrev s_law : Stmt := top 54
theorem sc_law : FnScope ["_law_script", "_law_bag_here", "_law_d", "_law_k", "_law_one", "_law_other", "_law_what"] ["_law_script"] (defScope s_law) := ⟨rfl, rfl, rfl, by decide +kernel, rfl, by decide +kernel, by decide +kernel⟩
set_option genInjectivity false
set_option genSizeOfSpec false
structure Fns (K : PySem.W.Frag) (mg : Str → Option Value) where
  f_is_whole : Addr
  d_is_whole : FuncData
  f_need_between : Addr
  d_need_between : FuncData
  f_need_wide : Addr
  d_need_wide : FuncData
  f_need_degree : Addr
  d_need_degree : FuncData
  f_gathered : Addr
  d_gathered : FuncData
  f_how_many_sets : Addr
  d_how_many_sets : FuncData
  f_ends_at : Addr
  d_ends_at : FuncData
  f_sound : Addr
  d_sound : FuncData
  f_lost : Addr
  d_lost : FuncData
  f_lifts_from : Addr
  d_lifts_from : FuncData
  f_leaving : Addr
  d_leaving : FuncData
  f_with_floor : Addr
  d_with_floor : FuncData
  f_drawings : Addr
  d_drawings : FuncData
  f_parts : Addr
  d_parts : FuncData
  f_worth : Addr
  d_worth : FuncData
  f_choose : Addr
  d_choose : FuncData
  f_with_more : Addr
  d_with_more : FuncData
  f_need_sound : Addr
  d_need_sound : FuncData
  f_end_marks : Addr
  d_end_marks : FuncData
  f_put_between : Addr
  d_put_between : FuncData
  f_how_many_orders : Addr
  d_how_many_orders : FuncData
  f_how_many : Addr
  d_how_many : FuncData
  f_may_stand : Addr
  d_may_stand : FuncData
  f_without_first : Addr
  d_without_first : FuncData
  f_orders : Addr
  d_orders : FuncData
  f_all_marks : Addr
  d_all_marks : FuncData
  f_markings : Addr
  d_markings : FuncData
  f_count_by_floors : Addr
  d_count_by_floors : FuncData
  f_whole_by_floors : Addr
  d_whole_by_floors : FuncData
  f_paper : Addr
  d_paper : FuncData
  f__law_cell_at : Addr
  d__law_cell_at : FuncData
  f__law_bag : Addr
  d__law_bag : FuncData
  f__law_mixed : Addr
  d__law_mixed : FuncData
  f__law_digit : Addr
  d__law_digit : FuncData
  f__law_ask : Addr
  d__law_ask : FuncData
  f__law_refused : Addr
  d__law_refused : FuncData
  f__law_odd_pair : Addr
  d__law_odd_pair : FuncData
  f__law_told : Addr
  d__law_told : FuncData
  f_law : Addr
  d_law : FuncData
  F_is_whole : Fun K "is_whole" "is_whole" s_is_whole f_is_whole d_is_whole
  B_is_whole : Binds K d_is_whole ["thing"] []
  m_is_whole : mg "is_whole" = some (.ref f_is_whole)
  F_need_between : Fun K "need_between" "need_between" s_need_between f_need_between d_need_between
  B_need_between : Binds K d_need_between ["thing", "least", "greatest"] []
  m_need_between : mg "need_between" = some (.ref f_need_between)
  F_need_wide : Fun K "need_wide" "need_wide" s_need_wide f_need_wide d_need_wide
  B_need_wide : Binds K d_need_wide ["d", "k"] []
  m_need_wide : mg "need_wide" = some (.ref f_need_wide)
  F_need_degree : Fun K "need_degree" "need_degree" s_need_degree f_need_degree d_need_degree
  B_need_degree : Binds K d_need_degree ["d"] []
  m_need_degree : mg "need_degree" = some (.ref f_need_degree)
  F_gathered : Fun K "gathered" "gathered" s_gathered f_gathered d_gathered
  B_gathered : Binds K d_gathered ["things", "pairs"] []
  m_gathered : mg "gathered" = some (.ref f_gathered)
  F_how_many_sets : Fun K "how_many_sets" "how_many_sets" s_how_many_sets f_how_many_sets d_how_many_sets
  B_how_many_sets : Binds K d_how_many_sets ["things", "pairs"] []
  m_how_many_sets : mg "how_many_sets" = some (.ref f_how_many_sets)
  F_ends_at : Fun K "ends_at" "ends_at" s_ends_at f_ends_at d_ends_at
  B_ends_at : Binds K d_ends_at ["d", "drawing"] []
  m_ends_at : mg "ends_at" = some (.ref f_ends_at)
  F_sound : Fun K "sound" "sound" s_sound f_sound d_sound
  B_sound : Binds K d_sound ["d", "drawing"] []
  m_sound : mg "sound" = some (.ref f_sound)
  F_lost : Fun K "lost" "lost" s_lost f_lost d_lost
  B_lost : Binds K d_lost ["lift"] []
  m_lost : mg "lost" = some (.ref f_lost)
  F_lifts_from : Fun K "lifts_from" "lifts_from" s_lifts_from f_lifts_from d_lifts_from
  B_lifts_from : Binds K d_lifts_from ["d", "floor", "weight", "spare"] []
  m_lifts_from : mg "lifts_from" = some (.ref f_lifts_from)
  F_leaving : Fun K "leaving" "leaving" s_leaving f_leaving d_leaving
  B_leaving : Binds K d_leaving ["lifts", "weight", "spare"] []
  m_leaving : mg "leaving" = some (.ref f_leaving)
  F_with_floor : Fun K "with_floor" "with_floor" s_with_floor f_with_floor d_with_floor
  B_with_floor : Binds K d_with_floor ["d", "floor", "drawing", "spare"] []
  m_with_floor : mg "with_floor" = some (.ref f_with_floor)
  F_drawings : Fun K "drawings" "drawings" s_drawings f_drawings d_drawings
  B_drawings : Binds K d_drawings ["d", "k"] []
  m_drawings : mg "drawings" = some (.ref f_drawings)
  F_parts : Fun K "parts" "parts" s_parts f_parts d_parts
  B_parts : Binds K d_parts ["d", "drawing"] []
  m_parts : mg "parts" = some (.ref f_parts)
  F_worth : Fun K "worth" "worth" s_worth f_worth d_worth
  B_worth : Binds K d_worth ["drawing"] []
  m_worth : mg "worth" = some (.ref f_worth)
  F_choose : Fun K "choose" "choose" s_choose f_choose d_choose
  B_choose : Binds K d_choose ["number", "chosen"] []
  m_choose : mg "choose" = some (.ref f_choose)
  F_with_more : Fun K "with_more" "with_more" s_with_more f_with_more d_with_more
  B_with_more : Binds K d_with_more ["numbers", "place", "more"] []
  m_with_more : mg "with_more" = some (.ref f_with_more)
  F_need_sound : Fun K "need_sound" "need_sound" s_need_sound f_need_sound d_need_sound
  B_need_sound : Binds K d_need_sound ["d", "drawing"] []
  m_need_sound : mg "need_sound" = some (.ref f_need_sound)
  F_end_marks : Fun K "end_marks" "end_marks" s_end_marks f_end_marks d_end_marks
  B_end_marks : Binds K d_end_marks ["d", "drawing"] []
  m_end_marks : mg "end_marks" = some (.ref f_end_marks)
  F_put_between : Fun K "put_between" "put_between" s_put_between f_put_between d_put_between
  B_put_between : Binds K d_put_between ["numbers", "first", "last", "alike"] []
  m_put_between : mg "put_between" = some (.ref f_put_between)
  F_how_many_orders : Fun K "how_many_orders" "how_many_orders" s_how_many_orders f_how_many_orders d_how_many_orders
  B_how_many_orders : Binds K d_how_many_orders ["d", "marks"] []
  m_how_many_orders : mg "how_many_orders" = some (.ref f_how_many_orders)
  F_how_many : Fun K "how_many" "how_many" s_how_many f_how_many d_how_many
  B_how_many : Binds K d_how_many ["d", "drawing"] []
  m_how_many : mg "how_many" = some (.ref f_how_many)
  F_may_stand : Fun K "may_stand" "may_stand" s_may_stand f_may_stand d_may_stand
  B_may_stand : Binds K d_may_stand ["mark", "floor", "waiting"] []
  m_may_stand : mg "may_stand" = some (.ref f_may_stand)
  F_without_first : Fun K "without_first" "without_first" s_without_first f_without_first d_without_first
  B_without_first : Binds K d_without_first ["waiting", "mark"] []
  m_without_first : mg "without_first" = some (.ref f_without_first)
  F_orders : Fun K "orders" "orders" s_orders f_orders d_orders
  B_orders : Binds K d_orders ["floor", "waiting"] []
  m_orders : mg "orders" = some (.ref f_orders)
  F_all_marks : Fun K "all_marks" "all_marks" s_all_marks f_all_marks d_all_marks
  B_all_marks : Binds K d_all_marks ["d", "drawing"] []
  m_all_marks : mg "all_marks" = some (.ref f_all_marks)
  F_markings : Fun K "markings" "markings" s_markings f_markings d_markings
  B_markings : Binds K d_markings ["d", "drawing"] []
  m_markings : mg "markings" = some (.ref f_markings)
  F_count_by_floors : Fun K "count_by_floors" "count_by_floors" s_count_by_floors f_count_by_floors d_count_by_floors
  B_count_by_floors : Binds K d_count_by_floors ["d", "k"] []
  m_count_by_floors : mg "count_by_floors" = some (.ref f_count_by_floors)
  F_whole_by_floors : Fun K "whole_by_floors" "whole_by_floors" s_whole_by_floors f_whole_by_floors d_whole_by_floors
  B_whole_by_floors : Binds K d_whole_by_floors ["d", "k"] []
  m_whole_by_floors : mg "whole_by_floors" = some (.ref f_whole_by_floors)
  F_paper : Fun K "paper" "paper" s_paper f_paper d_paper
  B_paper : Binds K d_paper ["d", "k"] []
  m_paper : mg "paper" = some (.ref f_paper)
  F__law_cell_at : Fun K "_law_cell_at" "_law_cell_at" s__law_cell_at f__law_cell_at d__law_cell_at
  B__law_cell_at : Binds K d__law_cell_at ["_law_script", "_law_k"] []
  m__law_cell_at : mg "_law_cell_at" = some (.ref f__law_cell_at)
  F__law_bag : Fun K "_law_bag" "_law_bag" s__law_bag f__law_bag d__law_bag
  B__law_bag : Binds K d__law_bag ["_law_cell", "_law_place"] []
  m__law_bag : mg "_law_bag" = some (.ref f__law_bag)
  F__law_mixed : Fun K "_law_mixed" "_law_mixed" s__law_mixed f__law_mixed d__law_mixed
  B__law_mixed : Binds K d__law_mixed ["_law_bag_here"] []
  m__law_mixed : mg "_law_mixed" = some (.ref f__law_mixed)
  F__law_digit : Fun K "_law_digit" "_law_digit" s__law_digit f__law_digit d__law_digit
  B__law_digit : Binds K d__law_digit ["_law_bag_here", "_law_many"] []
  m__law_digit : mg "_law_digit" = some (.ref f__law_digit)
  F__law_ask : Fun K "_law_ask" "_law_ask" s__law_ask f__law_ask d__law_ask
  B__law_ask : Binds K d__law_ask ["_law_what", "_law_d", "_law_k"] []
  m__law_ask : mg "_law_ask" = some (.ref f__law_ask)
  F__law_refused : Fun K "_law_refused" "_law_refused" s__law_refused f__law_refused d__law_refused
  B__law_refused : Binds K d__law_refused ["_law_what", "_law_d", "_law_k"] []
  m__law_refused : mg "_law_refused" = some (.ref f__law_refused)
  F__law_odd_pair : Fun K "_law_odd_pair" "_law_odd_pair" s__law_odd_pair f__law_odd_pair d__law_odd_pair
  B__law_odd_pair : Binds K d__law_odd_pair ["_law_bag_here", "_law_d", "_law_k"] []
  m__law_odd_pair : mg "_law_odd_pair" = some (.ref f__law_odd_pair)
  F__law_told : Fun K "_law_told" "_law_told" s__law_told f__law_told d__law_told
  B__law_told : Binds K d__law_told ["_law_what", "_law_d", "_law_k"] []
  m__law_told : mg "_law_told" = some (.ref f__law_told)
  F_law : Fun K "law" "law" s_law f_law d_law
  B_law : Binds K d_law ["_law_script"] []
  m_law : mg "law" = some (.ref f_law)
  n_isinstance : mg "isinstance" = none
  n_int : mg "int" = none
  n_bool : mg "bool" = none
  n_len : mg "len" = none
  n_min : mg "min" = none
  n_range : mg "range" = none
  n_enumerate : mg "enumerate" = none
  n_sum : mg "sum" = none
  n_sorted : mg "sorted" = none
  n_list : mg "list" = none
  n_tuple : mg "tuple" = none
  n_set : mg "set" = none
  n_any : mg "any" = none
  n_abs : mg "abs" = none
  n_ValueError : mg "ValueError" = none
  a_WIDE : Addr
  m_WIDE : mg "WIDE" = some (.ref a_WIDE)
  D_WIDE : dtabIn K a_WIDE [(1, 6), (2, 6), (3, 6), (4, 6), (5, 3)] = true
  c_NoBound : Addr
  m_NoBound : mg "NoBound" = some (.ref c_NoBound)
  c_NoDrawing : Addr
  m_NoDrawing : mg "NoDrawing" = some (.ref c_NoDrawing)
  c_CurveError : Addr
  m_CurveError : mg "CurveError" = some (.ref c_CurveError)
  c_NoEnds : Addr
  m_NoEnds : mg "NoEnds" = some (.ref c_NoEnds)
  c_NoNumber : Addr
  m_NoNumber : mg "NoNumber" = some (.ref c_NoNumber)
  c_NoText : Addr
  m_NoText : mg "NoText" = some (.ref c_NoText)
  x_NoBound : PySem.W.excIn K c_NoBound bmV "ValueError.__new__" = true
  X_NoBound : XC K c_NoBound
  x_NoDrawing : PySem.W.excIn K c_NoDrawing bmV "ValueError.__new__" = true
  X_NoDrawing : XC K c_NoDrawing
  e_NoBound_CurveError : PySem.W.exmOne K (.ref c_NoBound) (.ref c_CurveError) = some true
  e_NoDrawing_CurveError : PySem.W.exmOne K (.ref c_NoDrawing) (.ref c_CurveError) = some true
  k_NoBound_NoBound : PySem.W.kitOne K (.ref c_NoBound) (.ref c_NoBound) = some true
  k_NoBound_ValueError : PySem.W.kitOne K (.ref c_NoBound) (.type "ValueError") = some true
  k_NoDrawing_NoBound : PySem.W.kitOne K (.ref c_NoDrawing) (.ref c_NoBound) = some false
  k_NoDrawing_ValueError : PySem.W.kitOne K (.ref c_NoDrawing) (.type "ValueError") = some true
  ks_NoBound_0 : PySem.W.kitAny K (.ref c_NoBound) [(.ref c_NoDrawing), (.ref c_NoEnds), (.ref c_NoNumber), (.ref c_NoText)] = some false
  ks_NoDrawing_1 : PySem.W.kitAny K (.ref c_NoDrawing) [(.ref c_NoDrawing), (.ref c_NoEnds), (.ref c_NoNumber), (.ref c_NoText)] = some true
/-! lifts and what they leave at the floors -/
abbrev Lf := Int × Int × Int
def lstep (e : List Int) (p : Lf) : List Int := (e.set (p.1 - 1).toNat (e.getD (p.1 - 1).toNat 0 - p.2.2)).set (p.2.1 - 1).toNat ((e.set (p.1 - 1).toNat (e.getD (p.1 - 1).toNat 0 - p.2.2)).getD (p.2.1 - 1).toNat 0 + p.2.2)
def endsF (n : Nat) (ps : List Lf) : List Int := ps.foldl lstep (List.replicate n 1)
def comes (ps : List Lf) (f : Int) : Int := ((ps.filter fun p => decide (p.2.1 = f)).map (·.2.2)).sum
def leaves (ps : List Lf) (f : Int) : Int := ((ps.filter fun p => decide (p.1 = f)).map (·.2.2)).sum
def Okl (n : Nat) (p : Lf) : Prop := 1 ≤ p.1 ∧ p.1 ≤ n ∧ 1 ≤ p.2.1 ∧ p.2.1 ≤ n
theorem getD_set {l : List Int} {i j : Nat} {v : Int} (h : i < l.length) : (l.set i v).getD j 0 = if i = j then v else l.getD j 0 := by
  rw [List.getD, List.getElem?_set]
  by_cases e : i = j
  · subst e
    rw [if_pos rfl, if_pos rfl, if_pos h]
    rfl
  · rw [if_neg e, if_neg e]
    rfl
theorem lstep_len {e : List Int} {p : Lf} : (lstep e p).length = e.length := by unfold lstep; rw [List.length_set, List.length_set]
theorem lstep_at {n : Nat} {e : List Int} {p : Lf} (he : e.length = n) (hp : Okl n p) (i : Nat) : (lstep e p).getD i 0 = e.getD i 0 + (if p.2.1 = 1 + (i : Int) then p.2.2 else 0) - (if p.1 = 1 + (i : Int) then p.2.2 else 0) := by
  obtain ⟨h1, h2, h3, h4⟩ := hp
  unfold lstep
  have a1 : (p.1 - 1).toNat < e.length := by omega
  rw [getD_set (by rw [List.length_set]; omega), getD_set a1]
  by_cases c1 : (p.2.1 - 1).toNat = i
  · have d1 : p.2.1 = 1 + (i : Int) := by omega
    rw [if_pos c1, if_pos d1, c1]
    by_cases c2 : (p.1 - 1).toNat = i
    · have d2 : p.1 = 1 + (i : Int) := by omega
      rw [if_pos c2, if_pos d2, c2]
      omega
    · have d2 : ¬ p.1 = 1 + (i : Int) := by omega
      rw [if_neg c2, if_neg d2]
      omega
  · have d1 : ¬ p.2.1 = 1 + (i : Int) := by omega
    rw [if_neg c1, if_neg d1, getD_set a1]
    by_cases c2 : (p.1 - 1).toNat = i
    · have d2 : p.1 = 1 + (i : Int) := by omega
      rw [if_pos c2, if_pos d2, c2]
      omega
    · have d2 : ¬ p.1 = 1 + (i : Int) := by omega
      rw [if_neg c2, if_neg d2]
      omega
theorem comes_cons (p : Lf) (ps : List Lf) (f : Int) : comes (p :: ps) f = (if p.2.1 = f then p.2.2 else 0) + comes ps f := by
  unfold comes
  rw [List.filter_cons]
  by_cases h : p.2.1 = f <;> simp [h]
theorem leaves_cons (p : Lf) (ps : List Lf) (f : Int) : leaves (p :: ps) f = (if p.1 = f then p.2.2 else 0) + leaves ps f := by
  unfold leaves
  rw [List.filter_cons]
  by_cases h : p.1 = f <;> simp [h]
theorem fold_at {n : Nat} : ∀ (ps : List Lf) (e : List Int), e.length = n → (∀ p ∈ ps, Okl n p) → (ps.foldl lstep e).length = n ∧ ∀ i : Nat, (ps.foldl lstep e).getD i 0 = e.getD i 0 + comes ps (1 + (i : Int)) - leaves ps (1 + (i : Int))
  | [], e, he, _ => ⟨he, fun i => by simp [comes, leaves]⟩
  | p :: ps, e, he, h => by
    rw [List.foldl_cons]
    obtain ⟨h1, h2⟩ := fold_at ps (lstep e p) (by rw [lstep_len]; exact he) fun q hq => h q (by simp [hq])
    refine ⟨h1, fun i => ?_⟩
    rw [h2 i, lstep_at he (h p (by simp)) i, comes_cons, leaves_cons]
    omega
theorem ends_len (n : Nat) (ps : List Lf) (h : ∀ p ∈ ps, Okl n p) : (endsF n ps).length = n := (fold_at ps _ (by simp) h).1
def back (xs : List Int) : Lf := (xs.getD 0 0, xs.getD 1 0, xs.getD 2 0)
def row3 (p : Lf) : List Int := [p.1, p.2.1, p.2.2]
theorem back_row (p : Lf) : back (row3 p) = p := rfl
/-! floors put together: by labels, and by going from floor to floor -/
/-- one pair put together -/
def join1 (L : Nat → Int) (p : Int × Int) : Nat → Int := fun t => if L t = L (p.2 - 1).toNat then L (p.1 - 1).toNat else L t
def labels (ps : List (Int × Int)) : Nat → Int := ps.foldl join1 fun t => 1 + (t : Int)
def Okp (d : Nat) (p : Int × Int) : Prop := 1 ≤ p.1 ∧ p.1 ≤ d ∧ 1 ≤ p.2 ∧ p.2 ≤ d
/-- floors that stand for themselves; floors that are the first of their label -/
def fixes (d : Nat) (L : Nat → Int) : List Nat := (List.range d).filter fun t => decide (L t = 1 + (t : Int))
/-! going from floor to floor -/
theorem pigeon : ∀ (n : Nat) (l : List Nat), l.Nodup → (∀ x ∈ l, x < n) → l.length ≤ n
  | 0, l, _, h => by
    cases l with
    | nil => simp
    | cons x l => exact absurd (h x (by simp)) (by omega)
  | n + 1, l, hn, h => by
    have h1 : (l.erase n).length ≤ n := pigeon n (l.erase n) (hn.erase n) fun x hx => by
      have := (hn.mem_erase_iff).mp hx
      have := h x this.2
      omega
    have h2 := List.length_erase (a := n) (l := l)
    split at h2 <;> omega
def pairs (ps : List Lf) : List (Int × Int) := ps.map fun p => (p.1, p.2.1)
theorem pairs_ok {d : Nat} {ps : List Lf} (h : ∀ p ∈ ps, Okl d p) : ∀ p ∈ pairs ps, Okp d p := fun p hp => by
  obtain ⟨q, hq, rfl⟩ := List.mem_map.mp hp
  exact h q hq
theorem at_int {ks : List Int} {i : Nat} (h : i < ks.length) : atI (ks.map V.int) (i : Int) = some (.int (ks.getD i 0)) := atI_nat (by rw [List.getElem?_map, List.getElem?_eq_getElem h]; simp [List.getD, h])
theorem bits60 {z : Int} (h0 : 0 < z) (h1 : z ≤ 10 ^ 60) : z ≠ 0 ∧ z.natAbs < 2 ^ 512 := by
  have : (10 : Nat) ^ 60 < 2 ^ 512 := by decide
  constructor <;> omega
theorem get_int {ks : List Int} {i : Nat} (h : i < ks.length) : (ks.map V.int)[i]? = some (.int (ks.getD i 0)) := by rw [List.getElem?_map, List.getElem?_eq_getElem h]; simp [List.getD, h]
theorem map_set {l : List Int} {i : Nat} {v : Int} : (l.set i v).map V.int = (l.map V.int).set i (.int v) := by rw [List.map_set]
def lf (p : Lf) : D := tI (row3 p)
def lfs (ps : List Lf) : D := .l (ps.map lf)
theorem of_lf {H : Hp} {p : Lf} {v : V} (h : Is H (lf p) v) : ∃ a, v = .ref a ∧ H a = some (.tup [.int p.1, .int p.2.1, .int p.2.2]) := of_tI h
theorem is_lf {H : Hp} {p : Lf} {a : Addr} (h : H a = some (.tup [.int p.1, .int p.2.1, .int p.2.2])) : Is H (lf p) (.ref a) := is_tI (xs := row3 p) h
theorem lfs_rows (ps : List Lf) : lfs ps = .l ((ps.map row3).map tI) := by unfold lfs; rw [List.map_map]; rfl
def TupS (H H' : Hp) : Prop := ∀ a xs, H a = some (.tup xs) → H' a = some (.tup xs)
theorem TupS.of_same {H H' : Hp} (s : Same H H') : TupS H H' := fun a xs e => s _ _ e
theorem TupS.trans {H H' H'' : Hp} (s : TupS H H') (t : TupS H' H'') : TupS H H'' := fun a xs e => t _ _ (s _ _ e)
theorem TupS.upd {H : Hp} {b : Addr} {zs ys : List V} (hb : H b = some (.lst zs)) : TupS H (L2.upd H b (.lst ys)) := fun a xs e => by
  rw [upd_ne (by rintro rfl; rw [hb] at e; cases e)]; exact e
theorem iss_lf {H H' : Hp} (t : TupS H H') : ∀ {ps : List Lf} {vs : List V}, Iss H (ps.map lf) vs → Iss H' (ps.map lf) vs
  | [], _, h => by rw [of_nil h]; exact iss_nil
  | p :: ps, _, h => by
    obtain ⟨u, us, rfl, h1, h2⟩ := of_cons h
    obtain ⟨a, rfl, ha⟩ := of_lf h1
    exact iss_cons (is_lf (t _ _ ha)) (iss_lf t h2)
/-! lists of lifts by < -/
def ltLf (p q : Lf) : Bool := if p.1 = q.1 then (if p.2.1 = q.2.1 then decide (p.2.2 < q.2.2) else decide (p.2.1 < q.2.1)) else decide (p.1 < q.1)
def ltLfs : List Lf → List Lf → Bool
  | _, [] => false
  | [], _ :: _ => true
  | x :: xs, y :: ys => if x = y then ltLfs xs ys else ltLf x y
theorem eqr_lf {K : PySem.W.Frag} {H : Hp} {p q : Lf} {v w : V} (h : Is H (lf p) v) (k : Is H (lf q) w) : EqR K H 1 v w (decide (p = q)) := by
  have e := h.eqr (K := K) (n := 1) (by simp [lf, tI, row3, dep, deps]) (by simp [lf, tI, row3, Kin, Kins]) k
  have : eqD (lf p) (lf q) = decide (p = q) := by
    obtain ⟨a, b, c⟩ := p
    obtain ⟨d, e, f⟩ := q
    simp [lf, tI, row3, eqD, eqDs, Bool.and_assoc]
  rwa [this] at e
theorem ltr_lf {K : PySem.W.Frag} {H : Hp} {p q : Lf} {v w : V} (h : Is H (lf p) v) (k : Is H (lf q) w) : LtR K H 1 v w (ltLf p q) := by
  obtain ⟨a, rfl, ha⟩ := of_lf h
  obtain ⟨b, rfl, hb⟩ := of_lf k
  have e := LtR.tuples (K := K) (H := H) (d := 0) (a := a) (b := b) (fun j => if j = 0 then decide (p.1 = q.1) else if j = 1 then decide (p.2.1 = q.2.1) else decide (p.2.2 = q.2.2)) (fun j => if j = 0 then decide (p.1 < q.1) else if j = 1 then decide (p.2.1 < q.2.1) else decide (p.2.2 < q.2.2)) (SqT.of ha) (SqT.of hb) (fun j x y hx hy => ?_) (fun j x y hx hy _ => ?_)
  · have e2 : SeqAt.lex (fun j => if j = 0 then decide (p.1 = q.1) else if j = 1 then decide (p.2.1 = q.2.1) else decide (p.2.2 = q.2.2)) (fun j => if j = 0 then decide (p.1 < q.1) else if j = 1 then decide (p.2.1 < q.2.1) else decide (p.2.2 < q.2.2)) 3 3 3 0 = ltLf p q := by
      unfold ltLf
      by_cases e0 : p.1 = q.1
      · by_cases e1 : p.2.1 = q.2.1
        · by_cases e2 : p.2.2 = q.2.2
          · simp [SeqAt.lex, e0, e1, e2]
          · simp [SeqAt.lex, e0, e1, e2]
        · simp [SeqAt.lex, e0, e1]
      · simp [SeqAt.lex, e0]
    exact e2 ▸ e
  · match j, hx, hy with
    | 0, hx, hy => cases hx; cases hy; exact EqR.int 0 _ _
    | 1, hx, hy => cases hx; cases hy; exact EqR.int 0 _ _
    | 2, hx, hy => cases hx; cases hy; exact EqR.int 0 _ _
    | j + 3, hx, _ => simp at hx
  · match j, hx, hy with
    | 0, hx, hy => cases hx; cases hy; exact LtR.int 0 _ _
    | 1, hx, hy => cases hx; cases hy; exact LtR.int 0 _ _
    | 2, hx, hy => cases hx; cases hy; exact LtR.int 0 _ _
    | j + 3, hx, _ => simp at hx
theorem lex_lfs (p q : List Lf) : ∀ (k i : Nat), min p.length q.length - i = k → i ≤ min p.length q.length → SeqAt.lex (fun j => decide (p.getD j (0, 0, 0) = q.getD j (0, 0, 0))) (fun j => ltLf (p.getD j (0, 0, 0)) (q.getD j (0, 0, 0))) p.length q.length k i = ltLfs (p.drop i) (q.drop i)
  | 0, i, hk, hi => by
    rw [SeqAt.lex]
    rcases (by omega : q.length = i ∨ (p.length = i ∧ i < q.length)) with e | ⟨e, e2⟩
    · rw [List.drop_of_length_le (l := q) (by omega)]
      have : ¬ p.length < q.length := by omega
      cases p.drop i <;> simp [ltLfs, this]
    · rw [List.drop_of_length_le (l := p) (by omega), List.drop_eq_getElem_cons e2]
      have : p.length < q.length := by omega
      simp [ltLfs, this]
  | k + 1, i, hk, hi => by
    have h1 : i < p.length := by omega
    have h2 : i < q.length := by omega
    have g1 : p.getD i (0, 0, 0) = p[i] := by simp [List.getD, h1]
    have g2 : q.getD i (0, 0, 0) = q[i] := by simp [List.getD, h2]
    rw [SeqAt.lex, List.drop_eq_getElem_cons h1, List.drop_eq_getElem_cons h2, ltLfs, g1, g2]
    by_cases e : p[i] = q[i]
    · rw [if_pos (decide_eq_true e), if_pos e]
      exact lex_lfs p q k (i + 1) (by omega) (by omega)
    · rw [if_neg (by simpa using e), if_neg e]
theorem lfs_parts {K : PySem.W.Frag} {H : Hp} {p q : List Lf} {vs ws : List V} (h : Iss H (p.map lf) vs) (k : Iss H (q.map lf) ws) :
    (∀ (j : Nat) x y, vs[j]? = some x → ws[j]? = some y → EqR K H 1 x y (decide (p.getD j (0, 0, 0) = q.getD j (0, 0, 0)))) ∧ (∀ (j : Nat) x y, vs[j]? = some x → ws[j]? = some y → decide (p.getD j (0, 0, 0) = q.getD j (0, 0, 0)) = false → LtR K H 1 x y (ltLf (p.getD j (0, 0, 0)) (q.getD j (0, 0, 0)))) := by
  have go : ∀ (j : Nat) x y, vs[j]? = some x → ws[j]? = some y → Is H (lf (p.getD j (0, 0, 0))) x ∧ Is H (lf (q.getD j (0, 0, 0))) y := fun j x y hx hy => by
    obtain ⟨d, hd, h1⟩ := h.of_get hx
    obtain ⟨e, he, h2⟩ := k.of_get hy
    rw [List.getElem?_map] at hd he
    obtain ⟨d', hd', rfl⟩ := Option.map_eq_some_iff.mp hd
    obtain ⟨e', he', rfl⟩ := Option.map_eq_some_iff.mp he
    rw [List.getD, hd', List.getD, he']
    exact ⟨h1, h2⟩
  exact ⟨fun j x y hx hy => eqr_lf (go j x y hx hy).1 (go j x y hx hy).2, fun j x y hx hy _ => ltr_lf (go j x y hx hy).1 (go j x y hx hy).2⟩
theorem ask_lfs {K : PySem.W.Frag} {H : Hp} {p q : List Lf} {v w : V} (h : Is H (lfs p) v) (k : Is H (lfs q) w) : Ask K H v w (ltLfs p q) := by
  obtain ⟨a, vs, rfl, ha, h⟩ := of_l h
  obtain ⟨b, ws, rfl, hb, k⟩ := of_l k
  obtain ⟨e1, e2⟩ := lfs_parts (K := K) h k
  refine ⟨a, b, vs, ws, 1, _, _, rfl, rfl, SqL.of ha, SqL.of hb, by decide, e1, e2, ?_⟩
  rw [h.length, k.length, List.length_map, List.length_map, lex_lfs p q _ 0 (Nat.sub_zero _) (Nat.zero_le _), List.drop_zero, List.drop_zero]
/-! without the lists of an earlier heap -/
def nw (H0 H : Hp) : Hp := fun b => match H0 b with | some (.lst _) => none | _ => H b
theorem nw_same {H0 H : Hp} : Same (nw H0 H) H := fun b o e => by
  unfold nw at e
  split at e
  · cases e
  · exact e
theorem nw_mono {H0 H H' : Hp} (s : Same H H') : Same (nw H0 H) (nw H0 H') := fun b o e => by
  unfold nw at e ⊢
  split at e
  · cases e
  · exact s _ _ e
/-- of a later heap less is left -/
theorem nw_later {H0 H1 H : Hp} (s : Same H0 H1) : Same (nw H1 H) (nw H0 H) := fun b o e => by
  unfold nw at e ⊢
  split at e
  · cases e
  · rename_i h
    split
    · rename_i xs h0
      exact absurd (s _ _ h0) (h xs)
    · exact e
theorem nw_hid {H0 H1 H : Hp} {a : Addr} {xs : List V} (s : Same H0 H1) (ha : H1 a = some (.lst xs)) : Same (nw H1 H) (hid (nw H0 H) a) := fun b o e => by
  have hb : b ≠ a := by
    rintro rfl
    unfold nw at e
    rw [ha] at e
    cases e
  rw [hid_at hb]
  exact nw_later s b o e
theorem nw_new {H0 H : Hp} {a : Addr} (h : H0 a = none) : nw H0 H a = H a := by unfold nw; rw [h]
theorem nw_tup {H0 H : Hp} {a : Addr} {xs : List V} (s : Same H0 H) (h : H a = some (.tup xs)) : nw H0 H a = some (.tup xs) := by
  unfold nw
  split
  · rename_i ys e
    rw [s _ _ e] at h
    cases h
  · exact h
theorem nw_iss {H0 H : Hp} {ps : List Lf} {vs : List V} (s : Same H0 H) (h : Iss H (ps.map lf) vs) : Iss (nw H0 H) (ps.map lf) vs := iss_lf (fun a xs e => nw_tup s e) h
theorem nw_lfs {H0 H : Hp} {ps : List Lf} {a : Addr} (s : Same H0 H) (n : H0 a = none) (h : Is H (lfs ps) (.ref a)) : Is (nw H0 H) (lfs ps) (.ref a) := by
  obtain ⟨_, vs, e, ha, hi⟩ := of_l h
  cases e
  exact is_l (by rw [nw_new n]; exact ha) (nw_iss s hi)
/-- a list that grows, since H0, of things made since H0 -/
def Acc (H0 H : Hp) (a : Addr) (xs : List D) : Prop := ∃ vs, H a = some (.lst vs) ∧ Iss (hid (nw H0 H) a) xs vs
theorem Acc.start {H0 H : Hp} {a : Addr} (h : H a = some (.lst [])) : Acc H0 H a [] := ⟨[], h, iss_nil⟩
theorem Acc.mono {H0 H H' : Hp} {a : Addr} {xs : List D} (s : Same H H') (g : Acc H0 H a xs) : Acc H0 H' a xs := let ⟨vs, e, h⟩ := g; ⟨vs, s _ _ e, h.mono (hid_mono (nw_mono s))⟩
theorem hid_nw_upd {H0 H : Hp} {a : Addr} {o : HO} : hid (nw H0 (upd H a o)) a = hid (nw H0 H) a := by
  funext b
  unfold hid
  split
  · rfl
  · rename_i h
    unfold nw
    rw [upd_ne h]
theorem Acc.add {H0 H1 H2 : Hp} {a : Addr} {xs : List D} {x : D} {vs : List V} {v : V} (s01 : Same H0 H1) (s12 : Same H1 H2) (ha : H1 a = some (.lst vs)) (h : Iss (hid (nw H0 H1) a) xs vs) (k : Is (nw H1 H2) x v) : Acc H0 (upd H2 a (.lst (vs ++ [v]))) a (xs ++ [x]) :=
  ⟨vs ++ [v], upd_same, by rw [hid_nw_upd]; exact (h.mono (hid_mono (nw_mono s12))).append (iss_cons (k.mono (nw_hid s01 ha)) iss_nil)⟩
theorem Acc.adds {H0 H1 H2 : Hp} {a : Addr} {xs ys : List D} {vs us : List V} (s01 : Same H0 H1) (s12 : Same H1 H2) (ha : H1 a = some (.lst vs)) (h : Iss (hid (nw H0 H1) a) xs vs) (k : Iss (nw H1 H2) ys us) : Acc H0 (upd H2 a (.lst (vs ++ us))) a (xs ++ ys) :=
  ⟨vs ++ us, upd_same, by rw [hid_nw_upd]; exact (h.mono (hid_mono (nw_mono s12))).append (k.mono (nw_hid s01 ha))⟩
theorem Acc.is {H0 H : Hp} {a : Addr} {xs : List D} (n : H0 a = none) (g : Acc H0 H a xs) : Is (nw H0 H) (.l xs) (.ref a) := let ⟨_, e, h⟩ := g; is_l (by rw [nw_new n]; exact e) (h.mono hid_same)

/-! drawings, floor by floor -/
def lostF (p : Lf) : Int := (p.2.1 - p.1) * p.2.2 - 1
def lfrW (f j : Int) (n : Nat) (sp : Int) : List Lf := ((List.range n).map fun w : Nat => ((f, j, 1 + (w : Int)) : Lf)).filter fun p => decide (lostF p ≤ sp)
def lfrF (f : Int) (m n : Nat) (sp : Int) : List Lf := (List.range m).flatMap fun i : Nat => lfrW f (f + 1 + (i : Int)) n sp
def leavF : Nat → List Lf → Int → Int → List (List Lf)
  | 0, _, _, _ => [[]]
  | n + 1, ls, wt, sp => [[]] ++ (List.range ls.length).flatMap fun i => match ls[i]? with
    | none => []
    | some p => if p.2.2 ≤ wt ∧ lostF p ≤ sp then (leavF n (ls.drop i) (wt - p.2.2) (sp - lostF p)).map (p :: ·) else []
def leavG (n : Nat) (ls : List Lf) (wt sp : Int) (i : Nat) : List (List Lf) := match ls[i]? with
    | none => []
    | some p => if p.2.2 ≤ wt ∧ lostF p ≤ sp then (leavF n (ls.drop i) (wt - p.2.2) (sp - lostF p)).map (p :: ·) else []
theorem leav_succ (n : Nat) (ls : List Lf) (wt sp : Int) : leavF (n + 1) ls wt sp = [[]] ++ (List.range ls.length).flatMap (leavG n ls wt sp) := rfl
def thF (d f : Nat) (ps : List Lf) : Int := (endsF d ps).getD (f - 1) 0
def leftF (d f : Nat) (th sp : Int) (ls : List Lf) : Int := sp - (ls.map lostF).sum - (th - (ls.map (·.2.2)).sum) * ((d : Int) - (f : Int))
def lvsF (d f : Nat) (th sp : Int) : List (List Lf) := leavF 8 (lfrF f (d - f) th.toNat sp) th sp
def withF (d f : Nat) (ps : List Lf) (sp : Int) : List (List Lf × Int) := ((lvsF d f (thF d f ps) sp).filter fun ls => decide (0 ≤ leftF d f (thF d f ps) sp ls)).map fun ls => (ps ++ ls, leftF d f (thF d f ps) sp ls)
def begF (d : Nat) (k : Int) : Nat → List (List Lf × Int)
  | 0 => [([], k)]
  | f + 1 => (begF d k f).flatMap fun x => withF d (f + 1) x.1 x.2
def rawD (d k : Nat) : List (List Lf) := ((begF d k d).filter fun x => decide (x.2 = 0)).map (·.1)
def oklB (d : Nat) (p : Lf) : Bool := decide (1 ≤ p.1) && decide (p.1 < p.2.1) && decide (p.2.1 ≤ d) && decide (1 ≤ p.2.2) && decide (p.2.2 ≤ 8)
def stB (d f : Nat) (x : List Lf × Int) : Bool := x.1.all (oklB d) && decide (x.1.length ≤ 20) && decide (0 ≤ thF d (f + 1) x.1) && decide (thF d (f + 1) x.1 < 8) && decide (0 ≤ x.2) && decide (x.2 ≤ 6) && decide ((lvsF d (f + 1) (thF d (f + 1) x.1) x.2).length ≤ 200)
def okB (d k : Nat) : Bool := (List.range d).all (fun f => (begF d k f).all (stB d f) && decide ((begF d k (f + 1)).length ≤ 900)) && (begF d k d).all fun x => decide (x.1.length ≤ 20)
def Wide (d k : Nat) : Prop := 1 ≤ d ∧ ((d ≤ 4 ∧ k ≤ 6) ∨ (d = 5 ∧ k ≤ 3))
theorem lfrW_succ (f j : Int) (n : Nat) (sp : Int) : lfrW f j (n + 1) sp = lfrW f j n sp ++ (if lostF (f, j, 1 + (n : Int)) ≤ sp then [(f, j, 1 + (n : Int))] else []) := by
  unfold lfrW
  rw [List.range_succ, List.map_append, List.filter_append]
  by_cases h : lostF (f, j, 1 + (n : Int)) ≤ sp <;> simp [h]
theorem lfrF_succ (f : Int) (m n : Nat) (sp : Int) : lfrF f (m + 1) n sp = lfrF f m n sp ++ lfrW f (f + 1 + (m : Int)) n sp := by
  unfold lfrF
  rw [List.range_succ, List.flatMap_append]
  simp
theorem lfrW_len (f j : Int) (n : Nat) (sp : Int) : (lfrW f j n sp).length ≤ n := by
  unfold lfrW
  exact Nat.le_trans (List.length_filter_le _ _) (by simp)
theorem lfrF_len (f : Int) (n : Nat) (sp : Int) : ∀ m, (lfrF f m n sp).length ≤ m * n
  | 0 => by simp [lfrF]
  | m + 1 => by
    rw [lfrF_succ, List.length_append, Nat.succ_mul]
    have := lfrF_len f n sp m
    have := lfrW_len f (f + 1 + (m : Int)) n sp
    omega
theorem lfrF_in {f : Int} {m n : Nat} {sp : Int} {p : Lf} (h : p ∈ lfrF f m n sp) : p.1 = f ∧ f < p.2.1 ∧ p.2.1 ≤ f + m ∧ 1 ≤ p.2.2 ∧ p.2.2 ≤ n := by
  unfold lfrF lfrW at h
  simp only [List.mem_flatMap, List.mem_range, List.mem_filter, List.mem_map] at h
  obtain ⟨i, hi, ⟨w, hw, rfl⟩, _⟩ := h
  refine ⟨rfl, ?_, ?_, ?_, ?_⟩
  · show f < f + 1 + (i : Int); omega
  · show f + 1 + (i : Int) ≤ f + m; omega
  · show 1 ≤ 1 + (w : Int); omega
  · show 1 + (w : Int) ≤ n; omega
theorem flat_succ {α : Type} (g : Nat → List α) (i : Nat) : (List.range (i + 1)).flatMap g = (List.range i).flatMap g ++ g i := by
  rw [List.range_succ, List.flatMap_append]
  simp
theorem pre_len {α : Type} (g : Nat → List α) : ∀ {m i : Nat}, i < m → ((List.range i).flatMap g).length + (g i).length ≤ ((List.range m).flatMap g).length
  | 0, i, h => absurd h (by omega)
  | m + 1, i, h => by
    rw [flat_succ, List.length_append]
    by_cases e : i = m
    · rw [e]; exact Nat.le_refl _
    · have := pre_len g (m := m) (i := i) (by omega)
      omega
theorem leav_in {n : Nat} {ls : List Lf} {wt sp : Int} {x : List Lf} (h : x ∈ leavF (n + 1) ls wt sp) : x = [] ∨ ∃ (i : Nat) (p : Lf) (r : List Lf), ls[i]? = some p ∧ p.2.2 ≤ wt ∧ lostF p ≤ sp ∧ r ∈ leavF n (ls.drop i) (wt - p.2.2) (sp - lostF p) ∧ x = p :: r := by
  rw [leav_succ] at h
  rcases List.mem_append.mp h with h | h
  · exact .inl (List.mem_singleton.mp h)
  · obtain ⟨i, hi, h⟩ := List.mem_flatMap.mp h
    unfold leavG at h
    split at h
    · cases h
    · rename_i p hp
      split at h
      · rename_i c
        obtain ⟨r, hr, rfl⟩ := List.mem_map.mp h
        exact .inr ⟨i, p, r, hp, c.1, c.2, hr, rfl⟩
      · cases h
theorem leav_item : ∀ {n : Nat} {ls : List Lf} {wt sp : Int} {x : List Lf}, (∀ p ∈ ls, 1 ≤ p.2.2) → 0 ≤ wt → x ∈ leavF n ls wt sp → x.length ≤ n ∧ 0 ≤ (x.map (·.2.2)).sum ∧ (x.map (·.2.2)).sum ≤ wt ∧ ∀ p ∈ x, p ∈ ls
  | 0, ls, wt, sp, x, _, h0, h => by
    rw [leavF] at h
    rw [List.mem_singleton.mp h]
    exact ⟨by simp, by simp, by simpa using h0, fun p hp => nomatch hp⟩
  | n + 1, ls, wt, sp, x, hw, h0, h => by
    rcases leav_in h with rfl | ⟨i, p, r, hp, c1, c2, hr, rfl⟩
    · exact ⟨by simp, by simp, by simpa using h0, fun p hp => nomatch hp⟩
    · have pm := List.mem_of_getElem? hp
      have p1 := hw p pm
      obtain ⟨a, b, c, d⟩ := leav_item (fun q hq => hw q (List.mem_of_mem_drop hq)) (by omega) hr
      refine ⟨by rw [List.length_cons]; omega, ?_, ?_, fun q hq => ?_⟩
      · rw [List.map_cons, List.sum_cons]; omega
      · rw [List.map_cons, List.sum_cons]; omega
      · rcases List.mem_cons.mp hq with rfl | hq
        · exact pm
        · exact List.mem_of_mem_drop (d q hq)
theorem oklB_iff {d : Nat} {p : Lf} : oklB d p = true ↔ 1 ≤ p.1 ∧ p.1 < p.2.1 ∧ p.2.1 ≤ d ∧ 1 ≤ p.2.2 ∧ p.2.2 ≤ 8 := by
  unfold oklB
  simp only [Bool.and_eq_true, decide_eq_true_eq]
  constructor
  · rintro ⟨⟨⟨⟨a, b⟩, c⟩, d⟩, e⟩; exact ⟨a, b, c, d, e⟩
  · rintro ⟨a, b, c, d, e⟩; exact ⟨⟨⟨⟨a, b⟩, c⟩, d⟩, e⟩
theorem stB_iff {d f : Nat} {x : List Lf × Int} (h : stB d f x = true) : (∀ p ∈ x.1, oklB d p = true) ∧ x.1.length ≤ 20 ∧ 0 ≤ thF d (f + 1) x.1 ∧ thF d (f + 1) x.1 < 8 ∧ 0 ≤ x.2 ∧ x.2 ≤ 6 ∧ (lvsF d (f + 1) (thF d (f + 1) x.1) x.2).length ≤ 200 := by
  unfold stB at h
  simp only [Bool.and_eq_true, decide_eq_true_eq, List.all_eq_true] at h
  obtain ⟨⟨⟨⟨⟨⟨a, b⟩, c⟩, d⟩, e⟩, f⟩, g⟩ := h
  exact ⟨a, b, c, d, e, f, g⟩
theorem okB_iff {d k : Nat} (h : okB d k = true) : (∀ f < d, (∀ x ∈ begF d k f, stB d f x = true) ∧ (begF d k (f + 1)).length ≤ 900) ∧ ∀ x ∈ begF d k d, x.1.length ≤ 20 := by
  unfold okB at h
  simp only [Bool.and_eq_true, decide_eq_true_eq, List.all_eq_true, List.mem_range] at h
  exact h

/-! every sound drawing is found -/
theorem ltI_lf (p q : Lf) : ltI (row3 p) (row3 q) = ltLf p q := by
  unfold ltLf ltI row3
  simp only [lexI, List.length_cons, List.length_nil]
  split
  · split
    · split
      · rename_i h; simp [h]
      · rfl
    · rfl
  · rfl
def Srt (ps : List Lf) : Prop := ps.Pairwise fun a b => ltLf b a = false
theorem sum_nn {α : Type} (g : α → Int) : ∀ {xs : List α}, (∀ x ∈ xs, 0 ≤ g x) → 0 ≤ (xs.map g).sum
  | [], _ => by simp
  | x :: xs, h => by
    rw [List.map_cons, List.sum_cons]
    have := sum_nn g (xs := xs) fun y hy => h y (by simp [hy])
    have := h x (by simp)
    omega
/-- what a sound drawing keeps -/
structure Snd (d : Nat) (ps : List Lf) : Prop where
  ok : ∀ p ∈ ps, 1 ≤ p.1 ∧ p.1 < p.2.1 ∧ p.2.1 ≤ d ∧ 1 ≤ p.2.2
  nn : ∀ i : Nat, i < d → 0 ≤ 1 + comes ps (1 + (i : Int)) - leaves ps (1 + (i : Int))
  so : Srt ps
def eF (ps : List Lf) (i : Nat) : Int := 1 + comes ps (1 + (i : Int)) - leaves ps (1 + (i : Int))
theorem lost_nn {p : Lf} (h1 : p.1 < p.2.1) (h2 : 1 ≤ p.2.2) : 0 ≤ lostF p := by
  unfold lostF
  have : 1 * 1 ≤ (p.2.1 - p.1) * p.2.2 := Int.mul_le_mul (by omega) h2 (by decide) (by omega)
  omega
def wsum (d : Nat) (g : Nat → Int) (n : Nat) : Int := ((List.range n).map fun i => g i * ((d : Int) - ((i + 1 : Nat) : Int))).sum
theorem wsum_succ (d : Nat) (g : Nat → Int) (n : Nat) : wsum d g (n + 1) = wsum d g n + g n * ((d : Int) - ((n + 1 : Nat) : Int)) := by
  unfold wsum
  rw [List.range_succ, List.map_append, List.sum_append]
  simp
theorem one_sum (d : Nat) (j w : Int) (h1 : 1 ≤ j) : ∀ n : Nat, wsum d (fun i => if j = 1 + (i : Int) then w else 0) n = if j ≤ n then w * ((d : Int) - j) else 0
  | 0 => by
    rw [if_neg (by omega)]
    rfl
  | n + 1 => by
    rw [wsum_succ, one_sum d j w h1 n]
    by_cases c : j = 1 + (n : Int)
    · have c' : ¬ j ≤ (n : Int) := by omega
      have c2 : j ≤ ((n + 1 : Nat) : Int) := by omega
      rw [if_pos c, if_neg c', if_pos c2, c, show (((n + 1 : Nat) : Int)) = 1 + (n : Int) by omega, Int.zero_add]
    · rw [if_neg c, Int.zero_mul, Int.add_zero]
      by_cases c2 : j ≤ (n : Int)
      · rw [if_pos c2, if_pos (by omega)]
      · rw [if_neg c2, if_neg (by omega)]
theorem wsum_add (d : Nat) (g h : Nat → Int) : ∀ n, wsum d (fun i => g i + h i) n = wsum d g n + wsum d h n
  | 0 => rfl
  | n + 1 => by
    rw [wsum_succ, wsum_succ, wsum_succ, wsum_add d g h n, Int.add_mul]
    omega
theorem wsum_sub (d : Nat) (g h : Nat → Int) : ∀ n, wsum d (fun i => g i - h i) n = wsum d g n - wsum d h n
  | 0 => rfl
  | n + 1 => by
    rw [wsum_succ, wsum_succ, wsum_succ, wsum_sub d g h n, Int.sub_mul]
    omega
theorem e_sum {d : Nat} : ∀ {ps : List Lf}, (∀ p ∈ ps, 1 ≤ p.1 ∧ p.1 < p.2.1 ∧ p.2.1 ≤ d ∧ 1 ≤ p.2.2) → wsum d (eF ps) d + (ps.map lostF).sum + ps.length = wsum d (fun _ => 1) d
  | [], _ => by
    have : eF [] = fun _ => 1 := by funext i; simp [eF, comes, leaves]
    rw [this]
    simp
  | p :: ps, h => by
    have ih := e_sum (ps := ps) fun q hq => h q (by simp [hq])
    obtain ⟨p1, p2, p3, p4⟩ := h p (by simp)
    have e : eF (p :: ps) = fun i : Nat => (eF ps i + (if p.2.1 = 1 + (i : Int) then p.2.2 else 0)) - (if p.1 = 1 + (i : Int) then p.2.2 else 0) := by
      funext i
      unfold eF
      rw [comes_cons, leaves_cons]
      omega
    rw [e, wsum_sub d (fun i : Nat => eF ps i + (if p.2.1 = 1 + (i : Int) then p.2.2 else 0)), wsum_add d (eF ps), one_sum d p.2.1 p.2.2 (by omega), one_sum d p.1 p.2.2 p1, if_pos p3, if_pos (by omega), List.map_cons, List.sum_cons, List.length_cons]
    have l : lostF p = p.2.2 * ((d : Int) - p.1) - p.2.2 * ((d : Int) - p.2.1) - 1 := by
      unfold lostF
      rw [← Int.mul_sub, Int.mul_comm]
      congr 2
      omega
    rw [l]
    push_cast
    omega
theorem ends_at {d : Nat} {ps : List Lf} (h : ∀ p ∈ ps, Okl d p) {i : Nat} (hi : i < d) : (endsF d ps).getD i 0 = eF ps i := by
  have := (fold_at ps (List.replicate d 1) (by simp) h).2 i
  unfold endsF
  rw [this]
  unfold eF
  have : (List.replicate d (1 : Int)).getD i 0 = 1 := by simp [List.getD, hi]
  rw [this]
theorem half_sum {d : Nat} (h1 : 1 ≤ d) (h5 : d ≤ 5) : wsum d (fun _ => 1) d = ((d * (d - 1) / 2 : Nat) : Int) := by
  have : d = 1 ∨ d = 2 ∨ d = 3 ∨ d = 4 ∨ d = 5 := by omega
  rcases this with rfl | rfl | rfl | rfl | rfl <;> decide
def Good (d : Nat) (ps : List Lf) : Prop := (∀ p ∈ ps, 1 ≤ p.1 ∧ p.1 < p.2.1 ∧ p.2.1 ≤ d ∧ 1 ≤ p.2.2) ∧ ∀ i : Nat, i < d → 0 ≤ eF ps i
theorem Good.okl {d : Nat} {ps : List Lf} (h : Good d ps) : ∀ p ∈ ps, Okl d p := fun p hp => by
  obtain ⟨a, b, c, _⟩ := h.1 p hp
  exact ⟨a, by omega, by omega, c⟩
theorem wsum_ge {d : Nat} {g : Nat → Int} : ∀ {n i : Nat}, n ≤ d → (∀ j < n, 0 ≤ g j) → i < n → g i * ((d : Int) - ((i + 1 : Nat) : Int)) ≤ wsum d g n ∧ 0 ≤ wsum d g n
  | 0, i, _, _, h => absurd h (by omega)
  | n + 1, i, hd, hg, h => by
    rw [wsum_succ]
    have a : 0 ≤ g n * ((d : Int) - ((n + 1 : Nat) : Int)) := Int.mul_nonneg (hg n (by omega)) (by omega)
    have b : 0 ≤ wsum d g n := by
      cases n with
      | zero => exact Int.le_refl _
      | succ n => exact (wsum_ge (d := d) (g := g) (n := n + 1) (i := 0) (by omega) (fun j hj => hg j (by omega)) (by omega)).2
    by_cases e : i = n
    · subst e; exact ⟨by omega, by omega⟩
    · have := (wsum_ge (d := d) (g := g) (n := n) (i := i) (by omega) (fun j hj => hg j (by omega)) (by omega)).1
      exact ⟨by omega, by omega⟩
theorem Good.len {d : Nat} {ps : List Lf} (h : Good d ps) (d1 : 1 ≤ d) (d5 : d ≤ 5) : ps.length ≤ d * (d - 1) / 2 ∧ d * (d - 1) / 2 ≤ 10 ∧ ∀ i : Nat, i + 1 < d → eF ps i ≤ 10 := by
  have a := e_sum h.1
  rw [half_sum d1 d5] at a
  have n1 := sum_nn lostF (xs := ps) fun p hp => by
    have := h.1 p hp
    exact lost_nn this.2.1 this.2.2.2
  have n2 := (wsum_ge (d := d) (g := eF ps) (n := d) (i := 0) (Nat.le_refl _) h.2 (by omega)).2
  have d10 : d * (d - 1) / 2 ≤ 10 := by
    have : d = 1 ∨ d = 2 ∨ d = 3 ∨ d = 4 ∨ d = 5 := by omega
    rcases this with rfl | rfl | rfl | rfl | rfl <;> decide
  refine ⟨by omega, d10, fun i hi => ?_⟩
  have b := (wsum_ge (d := d) (g := eF ps) (n := d) (i := i) (Nat.le_refl _) h.2 (by omega)).1
  have c : eF ps i * 1 ≤ eF ps i * ((d : Int) - ((i + 1 : Nat) : Int)) := Int.mul_le_mul_of_nonneg_left (by omega) (h.2 i (by omega))
  omega
/-! markings -/
def insL (x : Lf) : List Lf → List Lf
  | [] => [x]
  | y :: ys => if ltLf x y then x :: y :: ys else if x = y then y :: ys else y :: insL x ys
def sset (xs : List Lf) : List Lf := xs.foldr insL []
def endM (d : Nat) (es : List Int) (i : Nat) : List Lf := List.replicate (es.getD i 0).toNat (1 + (i : Int), (d : Int) + 1, 1)
def endMs (d : Nat) (es : List Int) : List Lf := (List.range d).flatMap (endM d es)
/-! markings: facts at all lists -/
theorem ltLf_iff {p q : Lf} : ltLf p q = true ↔ p.1 < q.1 ∨ (p.1 = q.1 ∧ (p.2.1 < q.2.1 ∨ (p.2.1 = q.2.1 ∧ p.2.2 < q.2.2))) := by
  unfold ltLf
  by_cases e0 : p.1 = q.1
  · by_cases e1 : p.2.1 = q.2.1
    · simp [e0, e1]
    · simp [e0, e1]
  · simp [e0]
theorem ltLf_no {p : Lf} : ¬ ltLf p p = true := by rw [ltLf_iff]; omega
theorem ltLf_tr {p q r : Lf} (h : ltLf p q = true) (k : ltLf q r = true) : ltLf p r = true := by rw [ltLf_iff] at *; omega
theorem ltLf_tri {p q : Lf} (h : ¬ ltLf p q = true) (k : p ≠ q) : ltLf q p = true := by
  rw [ltLf_iff] at *
  obtain ⟨a, b, c⟩ := p
  obtain ⟨d, e, f⟩ := q
  simp only [ne_eq, Prod.mk.injEq, not_and] at *
  omega
theorem insL_mem {x z : Lf} : ∀ {ys : List Lf}, z ∈ insL x ys ↔ z = x ∨ z ∈ ys
  | [] => by simp [insL]
  | y :: ys => by
    unfold insL
    split
    · simp
    · split
      · rename_i e
        subst e
        simp
      · simp [insL_mem (ys := ys)]
        constructor
        · rintro (h | h | h)
          · exact .inr (.inl h)
          · exact .inl h
          · exact .inr (.inr h)
        · rintro (h | h | h)
          · exact .inr (.inl h)
          · exact .inl h
          · exact .inr (.inr h)
theorem insL_pw {x : Lf} : ∀ {ys : List Lf}, (ys.Pairwise fun a b => ltLf a b = true) → (insL x ys).Pairwise fun a b => ltLf a b = true
  | [], _ => by simp [insL]
  | y :: ys, h => by
    unfold insL
    split
    · rename_i e
      refine List.Pairwise.cons (fun z hz => ?_) h
      rcases List.mem_cons.mp hz with rfl | hz
      · exact e
      · exact ltLf_tr e ((List.pairwise_cons.mp h).1 z hz)
    · split
      · exact h
      · rename_i e1 e2
        refine List.Pairwise.cons (fun z hz => ?_) (insL_pw (List.pairwise_cons.mp h).2)
        rcases insL_mem.mp hz with rfl | hz
        · exact ltLf_tri e1 e2
        · exact (List.pairwise_cons.mp h).1 z hz
theorem sset_mem {z : Lf} : ∀ {xs : List Lf}, z ∈ sset xs ↔ z ∈ xs
  | [] => by simp [sset]
  | x :: xs => by
    have := sset_mem (z := z) (xs := xs)
    unfold sset at this ⊢
    rw [List.foldr_cons, insL_mem, this, List.mem_cons]
theorem sset_pw : ∀ (xs : List Lf), (sset xs).Pairwise fun a b => ltLf a b = true
  | [] => by simp [sset]
  | x :: xs => by
    have := sset_pw xs
    unfold sset at this ⊢
    rw [List.foldr_cons]
    exact insL_pw this
theorem pw_unique : ∀ {xs ys : List Lf}, (xs.Pairwise fun a b => ltLf a b = true) → (ys.Pairwise fun a b => ltLf a b = true) → (∀ z, z ∈ xs ↔ z ∈ ys) → xs = ys
  | [], [], _, _, _ => rfl
  | [], y :: ys, _, _, h => absurd ((h y).mpr (by simp)) (by simp)
  | x :: xs, [], _, _, h => absurd ((h x).mp (by simp)) (by simp)
  | x :: xs, y :: ys, h1, h2, h => by
    have a1 := List.pairwise_cons.mp h1
    have a2 := List.pairwise_cons.mp h2
    have e : x = y := by
      refine Classical.byContradiction fun ne => ?_
      have m1 : x ∈ ys := by rcases List.mem_cons.mp ((h x).mp (by simp)) with e | e; exact absurd e ne; exact e
      have m2 : y ∈ xs := by rcases List.mem_cons.mp ((h y).mpr (by simp)) with e | e; exact absurd e.symm ne; exact e
      exact ltLf_no (ltLf_tr (a1.1 y m2) (a2.1 x m1))
    subst e
    have : xs = ys := pw_unique a1.2 a2.2 fun z => by
      have hz := h z
      rw [List.mem_cons, List.mem_cons] at hz
      constructor
      · intro m
        rcases hz.mp (.inr m) with e | e
        · subst e; exact absurd (a1.1 z m) ltLf_no
        · exact e
      · intro m
        rcases hz.mpr (.inr m) with e | e
        · subst e; exact absurd (a2.1 z m) ltLf_no
        · exact e
    rw [this]
theorem row3_inj {p q : Lf} (h : row3 p = row3 q) : p = q := by rw [← back_row p, ← back_row q, h]
theorem sset_is {ps : List Lf} {yss : List (List Int)} (nd : yss.Nodup) (mem : ∀ z, z ∈ yss ↔ z ∈ ps.map row3) (so : ∀ i j, i < j → j < yss.length → ltI (yss.getD j []) (yss.getD i []) = false) : yss = (sset ps).map row3 := by
  obtain ⟨qs, e, hq⟩ := list_choose (f := row3) (P := fun p => p ∈ ps) yss fun v hv => by
    obtain ⟨p, hp, rfl⟩ := List.mem_map.mp ((mem v).mp hv)
    exact ⟨p, hp, rfl⟩
  subst e
  have : qs = sset ps := by
    refine pw_unique ?_ (sset_pw ps) fun z => ?_
    · rw [List.pairwise_iff_getElem]
      intro i j hi hj hij
      have h1 := so i j hij (by rw [List.length_map]; exact hj)
      rw [List.getD_eq_getElem?_getD, List.getD_eq_getElem?_getD, List.getElem?_map, List.getElem?_map, List.getElem?_eq_getElem hi, List.getElem?_eq_getElem hj] at h1
      simp only [Option.map_some, Option.getD_some] at h1
      rw [ltI_lf] at h1
      refine ltLf_tri (by rw [h1]; simp) fun e => ?_
      unfold List.Nodup at nd
      rw [List.pairwise_map, List.pairwise_iff_getElem] at nd
      exact nd i j hi hj hij (by rw [e])
    · rw [sset_mem]
      constructor
      · exact hq z
      · intro hz
        obtain ⟨q, hq', e⟩ := List.mem_map.mp ((mem (row3 z)).mpr (List.mem_map_of_mem hz))
        rw [← row3_inj e]
        exact hq'
  rw [this]
/-! how many orders: tables of tuples -/
def chF (n : Int) : Nat → Int
  | 0 => 1
  | k + 1 => chF n k * (n - (k : Int)) / ((k : Int) + 1)
def chB : Bool := (List.range 16).all fun n => (List.range (n + 1)).all fun k => decide (0 ≤ chF (n : Int) k) && decide (chF (n : Int) k ≤ 6435)
theorem chB_ok : chB = true := by decide +kernel
theorem ch_le {n : Int} {k : Nat} (h1 : (k : Int) ≤ n) (h2 : n ≤ 15) : 0 ≤ chF n k ∧ chF n k ≤ 6435 := by
  obtain ⟨m, rfl⟩ := Int.eq_ofNat_of_zero_le (show 0 ≤ n by omega)
  have h := chB_ok
  unfold chB at h
  rw [List.all_eq_true] at h
  have h := h m (List.mem_range.mpr (by omega))
  rw [List.all_eq_true] at h
  have h := h k (List.mem_range.mpr (by omega))
  simpa using h
def wmF (t : List Int) (p : Nat) (m : Int) : List Int := t.set p (t.getD p 0 + m)
theorem wm_len (t : List Int) (p : Nat) (m : Int) : (wmF t p m).length = t.length := by unfold wmF; rw [List.length_set]
theorem wm_at {t : List Int} {p i : Nat} {m : Int} (h : p < t.length) : (wmF t p m).getD i 0 = t.getD i 0 + if p = i then m else 0 := by
  unfold wmF
  rw [List.getD_eq_getElem?_getD, List.getElem?_set]
  by_cases e : p = i
  · subst e; simp [h]
  · simp [e]
theorem set_cut {t : List Int} {p : Nat} {x : Int} (h : p < t.length) : t.take p ++ [x] ++ t.drop (p + 1) = t.set p x := by
  rw [List.set_eq_take_append_cons_drop, if_pos h]
  simp
/-- a in g + 1 gaps -/
def spR : Nat → Nat → List (List Nat)
  | 0, a => [[a]]
  | g + 1, a => (List.range (a + 1)).flatMap fun h => (spR g (a - h)).map (h :: ·)
def rowP (t : List Int) : Nat → List Nat → Int
  | _, [] => 1
  | p, s :: r => chF (t.getD p 0 + (s : Int)) s * rowP t (p + 1) r
def addR (t : List Int) : Nat → List Nat → List Int
  | _, [] => t
  | p, s :: r => addR (wmF t p (s : Int)) (p + 1) r
theorem rowP_wm {t : List Int} {m : Int} {q : Nat} (hq : q < t.length) : ∀ {r : List Nat} {p : Nat}, q < p → rowP (wmF t q m) p r = rowP t p r
  | [], p, _ => rfl
  | s :: r, p, h => by
    unfold rowP
    rw [wm_at hq, if_neg (by omega), rowP_wm hq (r := r) (by omega)]
    simp
def pbF : Nat → List Int → Nat → Nat → List (List Int × Int)
  | 0, t, p, a => [(wmF t p (a : Int), chF (t.getD p 0 + (a : Int)) a)]
  | g + 1, t, p, a => (List.range (a + 1)).flatMap fun h : Nat => (pbF g (wmF t p (h : Int)) (p + 1) (a - h)).map fun x => (x.1, chF (t.getD p 0 + (h : Int)) h * x.2)
theorem flatMap_eq {α β : Type} {f g : α → List β} : ∀ {xs : List α}, (∀ x ∈ xs, f x = g x) → xs.flatMap f = xs.flatMap g
  | [], _ => rfl
  | x :: xs, h => by rw [List.flatMap_cons, List.flatMap_cons, h x (by simp), flatMap_eq fun y hy => h y (by simp [hy])]
theorem pb_eq : ∀ {g : Nat} {t : List Int} {p a : Nat}, p + g < t.length → pbF g t p a = (spR g a).map fun r => (addR t p r, rowP t p r)
  | 0, t, p, a, _ => by simp [pbF, spR, addR, rowP]
  | g + 1, t, p, a, h => by
    unfold pbF spR
    rw [List.map_flatMap]
    refine flatMap_eq fun x _ => ?_
    rw [pb_eq (by rw [wm_len]; omega), List.map_map, List.map_map]
    refine List.map_congr_left fun r _ => ?_
    simp only [Function.comp, addR, rowP]
    rw [rowP_wm (by omega) (Nat.lt_succ_self p)]
theorem spR_len : ∀ {g a : Nat} {r : List Nat}, r ∈ spR g a → r.length = g + 1 ∧ r.sum = a
  | 0, a, r, h => by simp [spR] at h; subst h; simp
  | g + 1, a, r, h => by
    unfold spR at h
    obtain ⟨x, hx, h⟩ := List.mem_flatMap.mp h
    obtain ⟨r', h', rfl⟩ := List.mem_map.mp h
    have hx := List.mem_range.mp hx
    obtain ⟨e1, e2⟩ := spR_len h'
    simp [e1, e2]
    omega
theorem sum_set : ∀ {t : List Int} {p : Nat} {m : Int}, p < t.length → (wmF t p m).sum = t.sum + m
  | [], p, m, h => absurd h (by simp)
  | x :: t, 0, m, _ => by simp [wmF]; omega
  | x :: t, p + 1, m, h => by
    have := sum_set (t := t) (p := p) (m := m) (by simpa using h)
    unfold wmF at this ⊢
    simp only [List.set_cons_succ, List.sum_cons, List.getD_cons_succ] at this ⊢
    omega
theorem addR_ok : ∀ {r : List Nat} {t : List Int} {p : Nat}, p + r.length ≤ t.length → (∀ i : Nat, 0 ≤ t.getD i 0) → (addR t p r).length = t.length ∧ (addR t p r).sum = t.sum + (r.sum : Nat) ∧ ∀ i : Nat, 0 ≤ (addR t p r).getD i 0
  | [], t, p, _, h => by simpa [addR] using h
  | s :: r, t, p, hl, h => by
    have hp : p < t.length := by simp at hl; omega
    obtain ⟨e1, e2, e3⟩ := addR_ok (r := r) (t := wmF t p (s : Int)) (p := p + 1) (by rw [wm_len]; simp at hl; omega) (fun i => by rw [wm_at hp]; have := h i; split <;> omega)
    unfold addR
    refine ⟨by rw [e1, wm_len], ?_, e3⟩
    rw [e2, sum_set hp, List.sum_cons]
    omega
/-- no entry is above the sum -/
theorem le_sum : ∀ {t : List Int}, (∀ i : Nat, 0 ≤ t.getD i 0) → 0 ≤ t.sum ∧ ∀ i : Nat, t.getD i 0 ≤ t.sum
  | [], _ => by simp
  | x :: t, h => by
    have hx := h 0
    obtain ⟨e1, e2⟩ := le_sum (t := t) fun i => by have := h (i + 1); simpa using this
    simp only [List.getD_cons_zero] at hx
    rw [List.sum_cons]
    refine ⟨by omega, fun i => ?_⟩
    cases i with
    | zero => simp; omega
    | succ i => have := e2 i; rw [List.getD_cons_succ]; omega
theorem rowP_le : ∀ {r : List Nat} {t : List Int} {p : Nat}, (∀ i : Nat, 0 ≤ t.getD i 0) → t.sum + (r.sum : Nat) ≤ 15 → 0 ≤ rowP t p r ∧ rowP t p r ≤ 6435 ^ r.length
  | [], t, p, _, _ => by simp [rowP]
  | s :: r, t, p, h, hs => by
    rw [List.sum_cons] at hs
    obtain ⟨e1, e2⟩ := le_sum h
    have a1 := e2 p
    have a2 := h p
    obtain ⟨c1, c2⟩ := ch_le (n := t.getD p 0 + (s : Int)) (k := s) (by omega) (by omega)
    obtain ⟨q1, q2⟩ := rowP_le (r := r) (t := t) (p := p + 1) h (by omega)
    unfold rowP
    refine ⟨Int.mul_nonneg c1 q1, ?_⟩
    rw [List.length_cons, Int.pow_succ, Int.mul_comm]
    exact Int.mul_le_mul q2 c2 c1 (Int.pow_nonneg (by decide))
/-! the tables -/
abbrev Tab := List (List Int × Int)
def sumD (D : Tab) (g : List Int → Int) : Int := (D.map fun x => x.2 * g x.1).sum
def valD (D : Tab) (k : List Int) : Int := ((D.find? fun x => decide (x.1 = k)).map (·.2)).getD 0
def putD (D : Tab) (k : List Int) (v : Int) : Tab := if (D.any fun x => decide (x.1 = k)) = true then D.map (fun x => if x.1 = k then (x.1, v) else x) else D ++ [(k, v)]
def addD (D : Tab) (k : List Int) (v : Int) : Tab := putD D k (valD D k + v)
theorem keys_put (D : Tab) (k : List Int) (v : Int) : (putD D k v).map (·.1) = if k ∈ D.map (·.1) then D.map (·.1) else D.map (·.1) ++ [k] := by
  unfold putD
  have : (D.any fun x => decide (x.1 = k)) = true ↔ k ∈ D.map (·.1) := by
    rw [List.any_eq_true, List.mem_map]
    simp
  by_cases h : k ∈ D.map (·.1)
  · rw [if_pos h, if_pos (this.mpr h), List.map_map]
    refine List.map_congr_left fun x _ => ?_
    simp only [Function.comp]
    split <;> rfl
  · rw [if_neg h, if_neg (fun z => h (this.mp z)), List.map_append]
    rfl
theorem sum_put_new {D : Tab} {k : List Int} {v : Int} {g : List Int → Int} (h : k ∉ D.map (·.1)) : sumD (putD D k v) g = sumD D g + v * g k ∧ valD D k = 0 := by
  have hn : ∀ x ∈ D, x.1 ≠ k := fun x hx e => h (List.mem_map.mpr ⟨x, hx, e⟩)
  have e1 : (D.any fun x => decide (x.1 = k)) = false := by
    rw [List.any_eq_false]
    intro x hx
    simpa using hn x hx
  have e2 : D.find? (fun x => decide (x.1 = k)) = none := by
    rw [List.find?_eq_none]
    intro x hx
    simpa using hn x hx
  unfold putD valD sumD
  rw [e1, e2]
  simp
theorem sum_put_old : ∀ {D : Tab} {k : List Int} {v : Int} {g : List Int → Int}, (D.map (·.1)).Nodup → k ∈ D.map (·.1) → sumD (D.map fun x => if x.1 = k then (x.1, v) else x) g = sumD D g + (v - valD D k) * g k
  | [], _, _, _, _, h => by simp at h
  | x :: D, k, v, g, nd, h => by
    rw [List.map_cons, List.nodup_cons] at nd
    by_cases e : x.1 = k
    · subst e
      have hn : ∀ y ∈ D, y.1 ≠ x.1 := fun y hy e => nd.1 (List.mem_map.mpr ⟨y, hy, e⟩)
      have e1 : (D.map fun y => if y.1 = x.1 then (y.1, v) else y) = D := by
        conv => rhs; rw [← List.map_id D]
        refine List.map_congr_left fun y hy => ?_
        rw [if_neg (hn y hy)]
        rfl
      have e2 : valD (x :: D) x.1 = x.2 := by simp [valD]
      rw [List.map_cons, e1, e2]
      simp only [sumD, if_true, List.map_cons, List.sum_cons]
      rw [Int.sub_mul]
      omega
    · have hk : k ∈ D.map (·.1) := by
        rw [List.map_cons, List.mem_cons] at h
        rcases h with h | h
        · exact absurd h.symm e
        · exact h
      have ih := sum_put_old (g := g) (v := v) nd.2 hk
      have e2 : valD (x :: D) k = valD D k := by simp [valD, List.find?_cons, e]
      rw [e2, List.map_cons]
      simp only [sumD, List.map_cons, List.sum_cons, if_neg e] at ih ⊢
      omega
theorem sum_add {D : Tab} (nd : (D.map (·.1)).Nodup) (k : List Int) (v : Int) (g : List Int → Int) : sumD (addD D k v) g = sumD D g + v * g k := by
  unfold addD
  by_cases h : k ∈ D.map (·.1)
  · have e : (D.any fun x => decide (x.1 = k)) = true := by
      rw [List.any_eq_true]
      obtain ⟨x, hx, e⟩ := List.mem_map.mp h
      exact ⟨x, hx, decide_eq_true e⟩
    unfold putD
    rw [if_pos e, sum_put_old nd h]
    rw [show valD D k + v - valD D k = v by omega]
  · obtain ⟨e1, e2⟩ := sum_put_new (v := valD D k + v) (g := g) h
    rw [e1, e2]
    simp
theorem nd_put {D : Tab} (nd : (D.map (·.1)).Nodup) (k : List Int) (v : Int) : ((putD D k v).map (·.1)).Nodup := by
  rw [keys_put]
  split
  · exact nd
  · rename_i h
    rw [List.nodup_append]
    exact ⟨nd, by simp, fun a ha b hb => by simp at hb; subst hb; exact fun e => h (e ▸ ha)⟩
/-- keys of length d, no entry below 0, with sum n -/
structure TabOk (d n : Nat) (D : Tab) : Prop where
  nd : (D.map (·.1)).Nodup
  key : ∀ x ∈ D, x.1.length = d ∧ x.1.sum = (n : Int) ∧ ∀ i : Nat, 0 ≤ x.1.getD i 0
theorem TabOk.add {d n : Nat} {D : Tab} (h : TabOk d n D) {k : List Int} {v : Int} (hk : k.length = d ∧ k.sum = (n : Int) ∧ ∀ i : Nat, 0 ≤ k.getD i 0) : TabOk d n (addD D k v) := by
  refine ⟨nd_put h.nd _ _, fun x hx => ?_⟩
  have : x.1 ∈ (putD D k (valD D k + v)).map (·.1) := List.mem_map_of_mem hx
  rw [keys_put] at this
  have : x.1 ∈ D.map (·.1) ∨ x.1 = k := by
    split at this
    · exact .inl this
    · rcases List.mem_append.mp this with h | h
      · exact .inl h
      · exact .inr (by simpa using h)
  rcases this with h' | h'
  · obtain ⟨y, hy, e⟩ := List.mem_map.mp h'
    rw [← e]
    exact h.key y hy
  · rw [h']; exact hk
/-- one more kind of mark -/
def inP (t : List Int) (v : Int) (p : Nat) (rs : List (List Nat)) (acc : Tab) : Tab := rs.foldl (fun acc r => addD acc (addR t p r) (v * rowP t p r)) acc
def stP (p : Nat) (rs : List (List Nat)) (xs acc : Tab) : Tab := xs.foldl (fun acc x => inP x.1 x.2 p rs acc) acc
def rsum (g : List Int → Int) (p : Nat) (rs : List (List Nat)) (t : List Int) : Int := (rs.map fun r => rowP t p r * g (addR t p r)).sum
/-- rows that fit -/
def RowsOk (p d n n' : Nat) (rs : List (List Nat)) : Prop := ∀ r ∈ rs, p + r.length ≤ d ∧ n + r.sum = n'
theorem key_add {d n n' p : Nat} {r : List Nat} {t : List Int} (h : t.length = d ∧ t.sum = (n : Int) ∧ ∀ i : Nat, 0 ≤ t.getD i 0) (hr : p + r.length ≤ d ∧ n + r.sum = n') : (addR t p r).length = d ∧ (addR t p r).sum = (n' : Int) ∧ ∀ i : Nat, 0 ≤ (addR t p r).getD i 0 := by
  obtain ⟨e1, e2, e3⟩ := addR_ok (r := r) (t := t) (p := p) (by rw [h.1]; exact hr.1) h.2.2
  exact ⟨by rw [e1, h.1], by rw [e2, h.2.1, ← hr.2]; omega, e3⟩
theorem inP_ok {d n n' p : Nat} {t : List Int} {v : Int} (h : t.length = d ∧ t.sum = (n : Int) ∧ ∀ i : Nat, 0 ≤ t.getD i 0) (g : List Int → Int) : ∀ {rs : List (List Nat)} {acc : Tab}, RowsOk p d n n' rs → TabOk d n' acc → TabOk d n' (inP t v p rs acc) ∧ sumD (inP t v p rs acc) g = sumD acc g + v * rsum g p rs t
  | [], acc, _, ha => by simp [inP, rsum, ha]
  | r :: rs, acc, hr, ha => by
    have a1 := ha.add (v := v * rowP t p r) (key_add h (hr r (by simp)))
    obtain ⟨b1, b2⟩ := inP_ok (v := v) h g (rs := rs) (fun r' h' => hr r' (by simp [h'])) a1
    refine ⟨b1, ?_⟩
    show sumD (inP t v p rs (addD acc (addR t p r) (v * rowP t p r))) g = _
    rw [b2, sum_add ha.nd]
    simp only [rsum, List.map_cons, List.sum_cons]
    rw [Int.mul_add, Int.mul_assoc]
    omega
theorem stP_ok {d n n' p : Nat} {rs : List (List Nat)} (hr : RowsOk p d n n' rs) (g : List Int → Int) : ∀ {xs acc : Tab}, (∀ x ∈ xs, x.1.length = d ∧ x.1.sum = (n : Int) ∧ ∀ i : Nat, 0 ≤ x.1.getD i 0) → TabOk d n' acc → TabOk d n' (stP p rs xs acc) ∧ sumD (stP p rs xs acc) g = sumD acc g + sumD xs (rsum g p rs)
  | [], acc, _, ha => by simp [stP, sumD, ha]
  | x :: xs, acc, hx, ha => by
    obtain ⟨a1, a2⟩ := inP_ok (v := x.2) (hx x (by simp)) g hr ha
    obtain ⟨b1, b2⟩ := stP_ok hr g (xs := xs) (fun y hy => hx y (by simp [hy])) a1
    refine ⟨b1, ?_⟩
    show sumD (stP p rs xs (inP x.1 x.2 p rs acc)) g = _
    rw [b2, a2]
    simp only [sumD, List.map_cons, List.sum_cons]
    omega
/-- the number of orders of marks of the kinds ms, put among the numbers t -/
def TF (cnt : Lf → Nat) : List Lf → List Int → Int
  | [], _ => 1
  | m :: ms, t => rsum (TF cnt ms) (m.1 - 1).toNat (spR (m.2.1 - m.1 - 1).toNat (cnt m)) t
def hmF (d : Nat) (mk : List Lf) : Int := TF (fun m => mk.count m) (sset mk) (List.replicate d 0)
theorem sumD_one (D : Tab) : sumD D (fun _ => 1) = (D.map (·.2)).sum := by
  unfold sumD
  congr 1
  refine List.map_congr_left fun x _ => ?_
  show x.2 * 1 = x.2
  omega
/-- at most 16 ^ d keys -/
def enc : List Int → Nat
  | [] => 0
  | x :: t => x.toNat + 16 * enc t
theorem enc_lt : ∀ {t : List Int}, (∀ i : Nat, 0 ≤ t.getD i 0 ∧ t.getD i 0 ≤ 15) → enc t < 16 ^ t.length
  | [], _ => by simp [enc]
  | x :: t, h => by
    have h0 := h 0
    have ih := enc_lt (t := t) fun i => by have := h (i + 1); simpa using this
    simp only [List.getD_cons_zero] at h0
    unfold enc
    rw [List.length_cons, Nat.pow_succ]
    omega
theorem enc_inj : ∀ {t u : List Int}, t.length = u.length → (∀ i : Nat, 0 ≤ t.getD i 0 ∧ t.getD i 0 ≤ 15) → (∀ i : Nat, 0 ≤ u.getD i 0 ∧ u.getD i 0 ≤ 15) → enc t = enc u → t = u
  | [], [], _, _, _, _ => rfl
  | [], _ :: _, h, _, _, _ => absurd h (by simp)
  | _ :: _, [], h, _, _, _ => absurd h (by simp)
  | x :: t, y :: u, hl, ht, hu, e => by
    have h0 := ht 0
    have h1 := hu 0
    simp only [List.getD_cons_zero] at h0 h1
    unfold enc at e
    have ih := enc_inj (t := t) (u := u) (by simpa using hl) (fun i => by have := ht (i + 1); simpa using this) (fun i => by have := hu (i + 1); simpa using this) (by omega)
    rw [ih, show x = y by omega]
theorem nodup_lt : ∀ (N : Nat) (xs : List Nat), xs.Nodup → (∀ x ∈ xs, x < N) → xs.length ≤ N
  | 0, [], _, _ => Nat.le_refl _
  | 0, x :: xs, _, h => absurd (h x (by simp)) (by omega)
  | N + 1, xs, nd, h => by
    have h1 := nodup_lt N (xs.filter fun x => decide (x ≠ N)) (nd.filter _) fun x hx => by
      obtain ⟨a, b⟩ := List.mem_filter.mp hx
      have := h x a
      have : x ≠ N := by simpa using b
      omega
    have h2 : xs.length ≤ (xs.filter fun x => decide (x ≠ N)).length + 1 := by
      clear h1 h
      induction xs with
      | nil => simp
      | cons y ys ih =>
        rw [List.nodup_cons] at nd
        by_cases e : y = N
        · subst e
          have : (ys.filter fun x => decide (x ≠ y)) = ys := by
            rw [List.filter_eq_self]
            intro z hz
            simp
            rintro rfl
            exact nd.1 hz
          rw [List.filter_cons, if_neg (by simp), this, List.length_cons]
          exact Nat.le_refl _
        · have := ih nd.2
          rw [List.filter_cons, if_pos (by simpa using e), List.length_cons, List.length_cons]
          omega
    omega
theorem TabOk.size {d n : Nat} {D : Tab} (h : TabOk d n D) (hd : d ≤ 5) (hn : n ≤ 15) : D.length ≤ 1048576 := by
  have hb : ∀ x ∈ D, ∀ i : Nat, 0 ≤ x.1.getD i 0 ∧ x.1.getD i 0 ≤ 15 := fun x hx i => by
    obtain ⟨_, e2, e3⟩ := h.key x hx
    have := (le_sum e3).2 i
    exact ⟨e3 i, by omega⟩
  have := nodup_lt (16 ^ d) (D.map fun x => enc x.1) ?_ ?_
  · rw [List.length_map] at this
    have : 16 ^ d ≤ 16 ^ 5 := Nat.pow_le_pow_right (by decide) hd
    omega
  · have nd := h.nd
    unfold List.Nodup at nd ⊢
    rw [List.pairwise_map] at nd ⊢
    refine List.Pairwise.imp_of_mem (fun {a b} ha hb' hne e => hne ?_) nd
    exact enc_inj (by rw [(h.key a ha).1, (h.key b hb').1]) (hb a ha) (hb b hb') e
  · intro x hx
    obtain ⟨y, hy, rfl⟩ := List.mem_map.mp hx
    have := enc_lt (hb y hy)
    rw [(h.key y hy).1] at this
    exact this

/-! tables in the heap -/
def keyL (t : List Int) : List Key := t.map Sum.inl
theorem keyL_kV (t : List Int) : (keyL t).map kV = t.map V.int := by unfold keyL; rw [List.map_map]; rfl
theorem keyL_inj : ∀ {t u : List Int}, keyL t = keyL u → t = u
  | [], [], _ => rfl
  | [], _ :: _, h => by simp [keyL] at h
  | _ :: _, [], h => by simp [keyL] at h
  | x :: t, y :: u, h => by
    simp only [keyL, List.map_cons, List.cons.injEq, Sum.inl.injEq] at h
    rw [h.1, keyL_inj (t := t) (u := u) h.2]
theorem keyL_iff {t u : List Int} : keyL t = keyL u ↔ t = u := ⟨keyL_inj, fun e => by rw [e]⟩
def tabK (D : Tab) : List (List Key × V) := D.map fun x => (keyL x.1, V.int x.2)
theorem tabK_len (D : Tab) : (tabK D).length = D.length := by unfold tabK; rw [List.length_map]
theorem tabK_put (D : Tab) (k : List Int) (v : Int) : putK (tabK D) (keyL k) (.int v) = tabK (putD D k v) := by
  have e : ((tabK D).any fun kv => decide (kv.1 = keyL k)) = (D.any fun x => decide (x.1 = k)) := by
    unfold tabK
    rw [List.any_map]
    congr 1
    funext x
    simp only [Function.comp, keyL_iff]
  unfold putK putD
  rw [e]
  split
  · unfold tabK
    rw [List.map_map, List.map_map]
    refine List.map_congr_left fun x _ => ?_
    simp only [Function.comp, keyL_iff]
    split <;> rfl
  · unfold tabK
    rw [List.map_append]
    rfl
theorem tabK_val (D : Tab) (k : List Int) : valV (tabK D) (keyL k) = (D.find? fun x => decide (x.1 = k)).map fun x => V.int x.2 := by
  unfold valV tabK
  rw [List.find?_map, Option.map_map]
  have : ((fun kv : List Key × V => decide (kv.1 = keyL k)) ∘ fun x : List Int × Int => (keyL x.1, V.int x.2)) = fun x => decide (x.1 = k) := by
    funext x
    simp only [Function.comp, keyL_iff]
  rw [this]
  rfl
theorem tabK_get (D : Tab) (k : List Int) : (valV (tabK D) (keyL k)).getD (.int 0) = .int (valD D k) := by
  rw [tabK_val]
  unfold valD
  cases D.find? fun x => decide (x.1 = k) <;> rfl
theorem tabK_at {D : Tab} (nd : (D.map (·.1)).Nodup) {x : List Int × Int} (h : x ∈ D) : valV (tabK D) (keyL x.1) = some (.int x.2) := by
  rw [tabK_val]
  have : D.find? (fun y => decide (y.1 = x.1)) = some x := by
    induction D with
    | nil => simp at h
    | cons y D ih =>
      rw [List.map_cons, List.nodup_cons] at nd
      rcases List.mem_cons.mp h with rfl | h
      · simp
      · have : y.1 ≠ x.1 := fun e => nd.1 (List.mem_map.mpr ⟨x, h, e.symm⟩)
        rw [List.find?_cons, decide_eq_false this]
        exact ih nd.2 h
  rw [this]
  rfl
theorem tabK_vals (D : Tab) : (tabK D).map (·.2) = (D.map (·.2)).map V.int := by unfold tabK; rw [List.map_map, List.map_map]; rfl
/-- a tuple and a number -/
def prD (x : List Int × Int) : D := .t [tI x.1, .i x.2]
/-! how many of a kind -/
theorem count_at (l : List Lf) (x : Lf) : (List.range l.length).countP (fun j => decide (l.getD j (0, 0, 0) = x)) = l.count x := by
  have e : (List.range l.length).map (fun j => l.getD j (0, 0, 0)) = l := by
    apply List.ext_getElem?
    intro i
    rw [List.getElem?_map]
    rcases Nat.lt_or_ge i l.length with c | c
    · rw [List.getElem?_range c]
      simp [List.getD, c]
    · rw [List.getElem?_eq_none (by simpa using c), List.getElem?_eq_none c]; rfl
  conv => rhs; rw [← e]
  rw [List.count, List.countP_map]
  congr 1
  funext j
  simp only [Function.comp]
  exact (Bool.beq_eq_decide_eq _ _).symm
theorem count_sum : ∀ (l S : List Lf), S.Nodup → (S.map fun m => l.count m).sum ≤ l.length
  | [], S, _ => by
    have : (S.map fun m => List.count m ([] : List Lf)) = S.map fun _ => 0 := by simp
    rw [this]
    induction S with
    | nil => simp
    | cons a S ih => rename_i nd; simpa using ih (List.nodup_cons.mp nd).2
  | x :: l, S, nd => by
    have ih := count_sum l S nd
    have : (S.map fun m => (x :: l).count m).sum ≤ (S.map fun m => l.count m).sum + 1 ∧ (x ∉ S → (S.map fun m => (x :: l).count m).sum = (S.map fun m => l.count m).sum) := by
      clear ih
      induction S with
      | nil => simp
      | cons a S ih =>
        obtain ⟨n1, n2⟩ := List.nodup_cons.mp nd
        obtain ⟨i1, i2⟩ := ih n2
        simp only [List.map_cons, List.sum_cons]
        by_cases e : x = a
        · subst e
          have := i2 n1
          rw [List.count_cons_self]
          exact ⟨by omega, fun h => absurd (by simp) h⟩
        · have e' : List.count a (x :: l) = List.count a l := List.count_cons_of_ne e
          rw [e']
          exact ⟨by omega, fun h => by rw [i2 (fun z => h (by simp [z]))]⟩
    rw [List.length_cons]
    omega
/-! as many ends as floors -/
theorem one_in (j w : Int) : ∀ n : Nat, ((List.range n).map fun i : Nat => if j = 1 + (i : Int) then w else 0).sum = if 1 ≤ j ∧ j ≤ n then w else 0
  | 0 => by
    have : ¬ (1 ≤ j ∧ j ≤ ((0 : Nat) : Int)) := by omega
    rw [if_neg this]
    rfl
  | n + 1 => by
    rw [List.range_succ, List.map_append, List.sum_append, one_in j w n]
    simp only [List.map_cons, List.map_nil, List.sum_cons, List.sum_nil]
    by_cases e : j = 1 + (n : Int)
    · rw [if_neg (by omega), if_pos e, if_pos (by omega)]
      omega
    · rw [if_neg e]
      by_cases c : 1 ≤ j ∧ j ≤ n
      · rw [if_pos c, if_pos (by omega)]
        omega
      · rw [if_neg c, if_neg (by omega)]
        rfl
theorem sum_three (f g h : Nat → Int) : ∀ xs : List Nat, (xs.map fun i => f i + g i - h i).sum = (xs.map f).sum + (xs.map g).sum - (xs.map h).sum
  | [] => by simp
  | x :: xs => by
    simp only [List.map_cons, List.sum_cons, sum_three f g h xs]
    omega
theorem e_all {d : Nat} : ∀ {ps : List Lf}, (∀ p ∈ ps, Okl d p) → ((List.range d).map (eF ps)).sum = (d : Int)
  | [], _ => by
    have : (List.range d).map (eF []) = (List.range d).map fun _ => 1 := by
      refine List.map_congr_left fun i _ => ?_
      simp [eF, comes, leaves]
    rw [this]
    induction d with
    | zero => simp
    | succ d ih => rw [List.range_succ, List.map_append, List.sum_append, ih (by intro p hp; exact nomatch hp) (by refine List.map_congr_left fun i _ => ?_; simp [eF, comes, leaves])]; simp
  | p :: ps, h => by
    have ih := e_all (d := d) (ps := ps) fun q hq => h q (by simp [hq])
    have e : (List.range d).map (eF (p :: ps)) = (List.range d).map fun i : Nat => eF ps i + (if p.2.1 = 1 + (i : Int) then p.2.2 else 0) - (if p.1 = 1 + (i : Int) then p.2.2 else 0) := by
      refine List.map_congr_left fun i _ => ?_
      unfold eF
      rw [comes_cons, leaves_cons]
      omega
    obtain ⟨o1, o2, o3, o4⟩ := h p (by simp)
    rw [e, sum_three, ih, one_in, one_in, if_pos ⟨o3, o4⟩, if_pos ⟨o1, o2⟩]
    omega
theorem flat_len (g : Nat → List Lf) : ∀ xs : List Nat, (xs.flatMap g).length = (xs.map fun i => (g i).length).sum
  | [] => rfl
  | x :: xs => by rw [List.flatMap_cons, List.length_append, flat_len g xs]; rfl
theorem ends_many {d : Nat} {ps : List Lf} (ok : ∀ p ∈ ps, Okl d p) (h : ∀ i : Nat, i < d → 0 ≤ eF ps i) : (endMs d (endsF d ps)).length = d := by
  have e1 : ((List.range d).map fun i => ((endM d (endsF d ps) i).length : Int)) = (List.range d).map (eF ps) := by
    refine List.map_congr_left fun i hi => ?_
    have hi := List.mem_range.mp hi
    unfold endM
    rw [List.length_replicate, ends_at ok hi]
    have := h i hi
    omega
  have e2 : ∀ xs : List Nat, (((xs.map fun i => (endM d (endsF d ps) i).length).sum : Nat) : Int) = (xs.map fun i => ((endM d (endsF d ps) i).length : Int)).sum := fun xs => by
    induction xs with
    | nil => rfl
    | cons x xs ih => simp only [List.map_cons, List.sum_cons] at ih ⊢; omega
  have := e2 (List.range d)
  rw [e1, e_all ok] at this
  unfold endMs
  rw [flat_len]
  omega

/-! the law's own splits -/
def worthF (ps : List Lf) : Int := ps.foldl (fun a p => a * p.2.2 ^ 2) 1
def Okw (d : Nat) (p : Lf) : Prop := Okl d p ∧ 1 ≤ p.2.2 ∧ p.2.2 ≤ 2 ^ 20
/-! counts by floors -/
def srtB : List Lf → Bool
  | [] => true
  | x :: r => r.all (fun y => !(ltLf y x)) && srtB r
theorem srtB_iff : ∀ {ps : List Lf}, srtB ps = true → Srt ps
  | [], _ => List.Pairwise.nil
  | x :: r, h => by
    unfold srtB at h
    rw [Bool.and_eq_true, List.all_eq_true] at h
    exact List.pairwise_cons.mpr ⟨fun y hy => by simpa using h.1 y hy, srtB_iff h.2⟩
def sndB (d : Nat) (ps : List Lf) : Bool := ps.all (oklB d) && (List.range d).all (fun i => decide (0 ≤ eF ps i)) && srtB ps
theorem sndB_iff {d : Nat} {ps : List Lf} (h : sndB d ps = true) : Snd d ps := by
  unfold sndB at h
  simp only [Bool.and_eq_true, List.all_eq_true, List.mem_range, decide_eq_true_eq] at h
  exact ⟨fun p hp => by have := oklB_iff.mp (h.1.1 p hp); omega, fun i hi => h.1.2 i hi, srtB_iff h.2⟩
def hmD (d : Nat) (x : List Lf) : Int := hmF d (x ++ endMs d (endsF d x))
def parN (d : Nat) (x : List Lf) : Nat := (fixes d (labels (pairs x))).length
def one34 (d : Nat) (x : List Lf) : Bool := sndB d x && decide (x.length ≤ 20) && decide (0 ≤ worthF x) && decide (worthF x < 2 ^ 40)
theorem one34_iff {d : Nat} {x : List Lf} (h : one34 d x = true) : Snd d x ∧ (∀ p ∈ x, Okw d p) ∧ x.length ≤ 20 ∧ 0 ≤ worthF x ∧ worthF x < 2 ^ 40 := by
  unfold one34 at h
  simp only [Bool.and_eq_true, decide_eq_true_eq] at h
  obtain ⟨⟨⟨h1, h2⟩, h3⟩, h4⟩ := h
  refine ⟨sndB_iff h1, fun p hp => ?_, h2, h3, h4⟩
  unfold sndB at h1
  simp only [Bool.and_eq_true, List.all_eq_true] at h1
  have := oklB_iff.mp (h1.1.1 p hp)
  exact ⟨⟨by omega, by omega, by omega, by omega⟩, by omega, by omega⟩
def W4 (d k : Nat) : Prop := 1 ≤ d ∧ d ≤ 4 ∧ k ≤ 6
def all34 (d k : Nat) : Bool := okB d k && (rawD d k).all (one34 d) && decide ((rawD d k).length < 64)
def w34 (d : Nat) : Bool := (List.range 7).all (all34 d)
theorem w34_1 : w34 1 = true := by decide +kernel
theorem w34_2 : w34 2 = true := by decide +kernel
theorem w34_3 : w34 3 = true := by decide +kernel
theorem w34_4 : w34 4 = true := by decide +kernel
theorem bits34 {d k : Nat} (h : W4 d k) : okB d k = true ∧ (∀ x ∈ rawD d k, one34 d x = true) ∧ (rawD d k).length < 64 := by
  obtain ⟨h1, h2, h3⟩ := h
  have a : w34 d = true := by
    have : d = 1 ∨ d = 2 ∨ d = 3 ∨ d = 4 := by omega
    rcases this with rfl | rfl | rfl | rfl
    · exact w34_1
    · exact w34_2
    · exact w34_3
    · exact w34_4
  have := List.all_eq_true.mp a k (List.mem_range.mpr (by omega))
  unfold all34 at this
  simp only [Bool.and_eq_true, decide_eq_true_eq, List.all_eq_true] at this
  exact ⟨this.1.1, this.1.2, this.2⟩
def numF (d : Nat) (x : List Lf) : Int := worthF x * hmD d x
def isW (d : Nat) (x : List Lf) : Bool := decide (parN d x = 1)

abbrev Bag (H : Hp) (b : Addr) (far st : Int) : Prop := H b = some (.lst [.int far, .int st])
def spCell (K : PySem.W.Frag) : Sp := fun vs H Q _ => ∃ (a : Addr) (ns : List Int) (k : Int), vs = [.ref a, .int k] ∧ SqL K H a (ns.map V.int) ∧ 0 ≤ k ∧ ∀ z, Q (.int z) H
def spBag (_ : PySem.W.Frag) : Sp := fun vs H Q _ => ∃ (c pl : Int), vs = [.int c, .int pl] ∧ 0 ≤ pl ∧ pl ≤ 100000 ∧ ∀ (b : Addr) (far st : Int) (H' : Hp), Same H H' → H b = none → Bag H' b far st → 0 ≤ far → 0 ≤ st → Q (.ref b) H'
def spMixed (_ : PySem.W.Frag) : Sp := fun vs H Q _ => ∃ (b : Addr) (far st : Int), vs = [.ref b] ∧ Bag H b far st ∧ ∀ z st', 0 ≤ z → 0 ≤ st' → Q (.int z) (upd H b (.lst [.int far, .int st']))
def spDigit (_ : PySem.W.Frag) : Sp := fun vs H Q _ => ∃ (b : Addr) (many far st : Int), vs = [.ref b, .int many] ∧ Bag H b far st ∧ 0 ≤ far ∧ 0 ≤ st ∧ 0 < many ∧ many ≤ 10 ^ 60 ∧ ∀ z far' st', 0 ≤ z → z < many → 0 ≤ far' → 0 ≤ st' → Q (.int z) (upd H b (.lst [.int far', .int st']))
def But (b : Addr) (H H' : Hp) : Prop := ∀ c o, H c = some o → c ≠ b → H' c = some o
theorem But.of_same {b : Addr} {H H' : Hp} (s : Same H H') : But b H H' := fun c o e _ => s _ _ e
theorem But.trans {b : Addr} {H H' H'' : Hp} (s : But b H H') (t : But b H' H'') : But b H H'' := fun c o e n => t c o (s c o e n) n
theorem But.upd {b : Addr} {H : Hp} {o : HO} : But b H (L2.upd H b o) := fun c u e n => by rw [upd_ne n]; exact e
def sp_law (K : PySem.W.Frag) : Sp := fun vs H Q _ => ∃ (a : Addr) (ns : List Int), vs = [.ref a] ∧ SqL K H a (ns.map V.int) ∧ ns.length ≤ 63 ∧ ∀ H', Q (.bl true) H'
theorem cut_take {vs : List V} {k : Nat} : cutV vs none (some (k : Int)) = vs.take k := by
  unfold cutV
  rw [HT.sIx_nat, HT.sIx_none, List.drop_zero, Nat.sub_zero]
  exact List.take_eq_take_iff.mpr (by omega)
def stD (x : List Lf × Int) : D := .t [lfs x.1, .i x.2]
def Lok (p : Lf) : Prop := 0 ≤ p.2.1 - p.1 ∧ p.2.1 - p.1 ≤ 10 ∧ 1 ≤ p.2.2 ∧ p.2.2 ≤ 20
def spDegQ (_ : PySem.W.Frag) : Sp := fun vs H Q _ => ∃ i : Int, vs = [.int i] ∧ 1 ≤ i ∧ i ≤ 5 ∧ Q .non H
def spEndQ (_ : PySem.W.Frag) : Sp := fun vs H Q _ => ∃ (n : Nat) (dv : V) (ps : List Lf), vs = [.int n, dv] ∧ 1 ≤ n ∧ n ≤ 5 ∧ Is H (lfs ps) dv ∧ (∀ p ∈ ps, Okl n p) ∧ ∀ l H', Same H H' → H l = none → H' l = some (.lst ((endsF n ps).map V.int)) → Q (.ref l) H'
def spLost (_ : PySem.W.Frag) : Sp := fun vs H Q _ => ∃ (v : V) (p : Lf), vs = [v] ∧ Is H (lf p) v ∧ Lok p ∧ Q (.int (lostF p)) H
def spLfr (_ : PySem.W.Frag) : Sp := fun vs H Q _ => ∃ (d f n : Nat) (sp : Int), vs = [.int d, .int f, .int n, .int sp] ∧ f ≤ d ∧ d ≤ 5 ∧ n ≤ 20 ∧ ∀ l H', Same H H' → H l = none → Is H' (lfs (lfrF f (d - f) n sp)) (.ref l) → Q (.ref l) H'
def spLeav (n : Nat) (_ : PySem.W.Frag) : Sp := fun vs H Q _ => ∃ (v : V) (ls : List Lf) (wt sp : Int), vs = [v, .int wt, .int sp] ∧ Is H (lfs ls) v ∧ (∀ p ∈ ls, Lok p) ∧ 0 ≤ wt ∧ wt < n ∧ (leavF n ls wt sp).length ≤ 1000 ∧ ls.length ≤ 200 ∧ n ≤ 100 ∧
  ∀ l H', Same H H' → H l = none → Is (nw H H') (.l ((leavF n ls wt sp).map lfs)) (.ref l) → Q (.ref l) H'
def spWith (_ : PySem.W.Frag) : Sp := fun vs H Q _ => ∃ (d f : Nat) (v : V) (x : List Lf × Int), vs = [.int d, .int ((f + 1 : Nat) : Int), v, .int x.2] ∧ f < d ∧ d ≤ 5 ∧ Is H (lfs x.1) v ∧ stB d f x = true ∧
  ∀ l H', Same H H' → H l = none → Is (nw H H') (.l ((withF d (f + 1) x.1 x.2).map stD)) (.ref l) → Q (.ref l) H'
theorem iss_pick {H : Hp} {W : List (List Lf)} {vs : List V} (h : Iss H (W.map lfs) vs) : ∀ (l : List Nat), (∀ i ∈ l, i < W.length) → Iss H ((l.map fun i => W.getD i []).map lfs) (l.map fun i => vs.getD i .non)
  | [], _ => iss_nil
  | i :: l, hl => by
    have hi : i < W.length := hl i (by simp)
    have hr : i < vs.length := by rw [h.length, List.length_map]; exact hi
    refine iss_cons ?_ (iss_pick h l fun j hj => hl j (by simp [hj]))
    obtain ⟨d, hd, h1⟩ := h.of_get (List.getElem?_eq_getElem hr)
    rw [List.getElem?_map, List.getElem?_eq_getElem hi] at hd
    cases hd
    show Is H (lfs (W.getD i [])) (vs.getD i .non)
    rw [List.getD_eq_getElem?_getD, List.getD_eq_getElem?_getD, List.getElem?_eq_getElem hi, List.getElem?_eq_getElem hr]
    exact h1
theorem of_st {H : Hp} {x : List Lf × Int} {v : V} (h : Is H (stD x) v) : ∃ t u, v = .ref t ∧ H t = some (.tup [u, .int x.2]) ∧ Is H (lfs x.1) u := by
  obtain ⟨t, vs, rfl, ht, hi⟩ := of_t h
  obtain ⟨u, us, rfl, h1, h2⟩ := of_cons hi
  obtain ⟨u2, us2, rfl, h3, h4⟩ := of_cons h2
  rw [of_i h3, of_nil h4] at ht
  exact ⟨t, u, rfl, ht, h1⟩
theorem rows_len {ps : List Lf} : ∀ x ∈ ps.map row3, x.length = 3 := fun x hx => by
  obtain ⟨p, _, rfl⟩ := List.mem_map.mp hx
  rfl
theorem hid_but {H H' : Hp} {a : Addr} (k : But a H H') : Same (hid H a) H' := fun b o e => by
  have hb : b ≠ a := by rintro rfl; rw [hid_self] at e; cases e
  rw [hid_at hb] at e
  exact k _ _ e hb
theorem cut_dropI {vs : List V} {i : Nat} (h : i ≤ vs.length) : cutV vs (some (i : Int)) none = vs.drop i := by
  unfold cutV
  rw [HT.sIx_nat, HT.sIx_none, Nat.min_eq_left h, List.take_of_length_le (by simp)]
theorem Snd.good {d : Nat} {ps : List Lf} (h : Snd d ps) : Good d ps := ⟨h.ok, h.nn⟩
theorem Snd.okl {d : Nat} {ps : List Lf} (h : Snd d ps) : ∀ p ∈ ps, Okl d p := h.good.okl
theorem getD_nn {ns : List Int} (h : ∀ i : Nat, 0 ≤ ns.getD i 0) : 0 ≤ minL ns := h _
theorem Snd.ends {d : Nat} {ps : List Lf} (h : Snd d ps) (i : Nat) : 0 ≤ (endsF d ps).getD i 0 := by
  rcases Nat.lt_or_ge i d with c | c
  · rw [ends_at h.okl c]; exact h.nn i c
  · rw [List.getD_eq_getElem?_getD, List.getElem?_eq_none (by rw [ends_len d ps h.okl]; exact c)]; exact Int.le_refl _
def spSou (_ : PySem.W.Frag) : Sp := fun vs H Q _ => ∃ (n : Nat) (dv : V) (ps : List Lf), vs = [.int n, dv] ∧ 1 ≤ n ∧ n ≤ 5 ∧ Is H (lfs ps) dv ∧ Snd n ps ∧ ∀ H', Same H H' → Q (.bl true) H'
def spNeS (_ : PySem.W.Frag) : Sp := fun vs H Q _ => ∃ (n : Nat) (dv : V) (ps : List Lf), vs = [.int n, dv] ∧ 1 ≤ n ∧ n ≤ 5 ∧ Is H (lfs ps) dv ∧ Snd n ps ∧ ∀ H', Same H H' → Q .non H'
def spEnM (_ : PySem.W.Frag) : Sp := fun vs H Q _ => ∃ (n : Nat) (dv : V) (ps : List Lf), vs = [.int n, dv] ∧ 1 ≤ n ∧ n ≤ 5 ∧ Is H (lfs ps) dv ∧ Snd n ps ∧ (endMs n (endsF n ps)).length ≤ 20 ∧ ∀ l H', Same H H' → H l = none → Is H' (lfs (endMs n (endsF n ps))) (.ref l) → Q (.ref l) H'
theorem iss_up {H H' : Hp} {l : Addr} {o : HO} {xs : List V} {qs : List Lf} {vs : List V} (s : Same H H') (hl : H l = some (.lst xs)) (h : Iss H (qs.map lf) vs) : Iss (upd H' l o) (qs.map lf) vs :=
  iss_lf (fun a ys e => by rw [upd_ne (by rintro rfl; rw [hl] at e; cases e)]; exact s _ _ e) h
theorem lf_inj {H : Hp} {p q : Lf} {v : V} (h : Is H (lf p) v) (k : Is H (lf q) v) : p = q := by
  obtain ⟨a, rfl, ha⟩ := of_lf h
  obtain ⟨b, e, hb⟩ := of_lf k
  cases e
  rw [ha] at hb
  obtain ⟨a1, a2, a3⟩ := p
  obtain ⟨b1, b2, b3⟩ := q
  simp at hb
  simp [hb]
theorem told_m {K : PySem.W.Frag} {H : Hp} {wt : List Lf} {m : Lf} {wvs : List V} {v : V} (h : Iss H (wt.map lf) wvs) (k : Is H (lf m) v) : Told1 K H 1 wvs v (fun j => decide (wt.getD j (0, 0, 0) = m)) := by
  have at_ : ∀ (j : Nat) z, wvs[j]? = some z → Is H (lf (wt.getD j (0, 0, 0))) z := fun j z hz => by
    obtain ⟨d, hd, h1⟩ := h.of_get hz
    rw [List.getElem?_map] at hd
    obtain ⟨d', hd', rfl⟩ := Option.map_eq_some_iff.mp hd
    rw [List.getD, hd']
    exact h1
  refine ⟨by decide, fun j z hz => ⟨?_, eqr_lf (at_ j z hz) k⟩, fun i j z hi hj => ?_⟩
  · obtain ⟨a, e, _⟩ := of_lf (at_ j z hz)
    exact ⟨a, e⟩
  · show decide (wt.getD i (0, 0, 0) = m) = decide (wt.getD j (0, 0, 0) = m)
    rw [lf_inj (at_ i z hi) (at_ j z hj)]
def ti (t : List Int) : D := tI t
def spCho (_ : PySem.W.Frag) : Sp := fun vs H Q _ => ∃ (n : Int) (k : Nat), vs = [.int n, .int k] ∧ (k : Int) ≤ n ∧ n ≤ 15 ∧ Q (.int (chF n k)) H
def spWm (_ : PySem.W.Frag) : Sp := fun vs H Q _ => ∃ (v : V) (t : List Int) (p : Nat) (m : Int), vs = [v, .int p, .int m] ∧ Is H (tI t) v ∧ p < t.length ∧ t.length ≤ 5 ∧ ∀ u H', Same H H' → Is H' (tI (wmF t p m)) u → Q u H'
def KeyT (t : List Int) (a : Nat) : Prop := t.length ≤ 5 ∧ (∀ i : Nat, 0 ≤ t.getD i 0) ∧ t.sum + (a : Int) ≤ 15
def spPB (n : Nat) (_ : PySem.W.Frag) : Sp := fun vs H Q _ => ∃ (v : V) (t : List Int) (p g a : Nat), vs = [v, .int p, .int ((p : Int) + (g : Int)), .int a] ∧ Is H (tI t) v ∧ g < n ∧ n ≤ 6 ∧ p + g < t.length ∧ KeyT t a ∧ ∀ l H', Same H H' → H l = none → Is H' (.l ((pbF g t p a).map prD)) (.ref l) → Q (.ref l) H'
def MkOk (d : Nat) (mk : List Lf) : Prop := (∀ m ∈ mk, 1 ≤ m.1 ∧ m.1 < m.2.1 ∧ m.2.1 ≤ (d : Int) + 1) ∧ mk.length ≤ 15
def spHMO (_ : PySem.W.Frag) : Sp := fun vs H Q _ => ∃ (d : Nat) (v : V) (mk : List Lf), vs = [.int d, v] ∧ 1 ≤ d ∧ d ≤ 5 ∧ Is H (lfs mk) v ∧ MkOk d mk ∧ ∀ H', Same H H' → Q (.int (hmF d mk)) H'
def spHM (_ : PySem.W.Frag) : Sp := fun vs H Q _ => ∃ (d : Nat) (v : V) (ps : List Lf), vs = [.int d, v] ∧ 1 ≤ d ∧ d ≤ 5 ∧ Is H (lfs ps) v ∧ Snd d ps ∧ ∀ H', Same H H' → Q (.int (hmF d (ps ++ endMs d (endsF d ps)))) H'
theorem ti_cut {t : List Int} {p : Nat} (H' : Hp) (vs : List V) (h : Iss H' (t.map .i) vs) : Iss H' ((t.take p).map .i) (cutV vs none (some (p : Int))) := by
  rw [cut_take, List.map_take]
  exact h.take p
theorem ti_drop {t : List Int} {p : Nat} (hp : p ≤ t.length) (H' : Hp) (vs : List V) (h : Iss H' (t.map .i) vs) : Iss H' ((t.drop p).map .i) (cutV vs (some (p : Int)) none) := by
  rw [cut_dropI (by rw [h.length, List.length_map]; exact hp), List.map_drop]
  exact h.drop p
theorem pb_len : ∀ {g : Nat} {t : List Int} {p a : Nat}, (pbF g t p a).length ≤ (a + 1) ^ g
  | 0, t, p, a => by simp [pbF]
  | g + 1, t, p, a => by
    have go : ∀ n, n ≤ a + 1 → ((List.range n).flatMap fun h : Nat => (pbF g (wmF t p (h : Int)) (p + 1) (a - h)).map fun x => (x.1, chF (t.getD p 0 + (h : Int)) h * x.2)).length ≤ n * (a + 1) ^ g := by
      intro n hn
      induction n with
      | zero => simp
      | succ n ih =>
        rw [flat_succ, List.length_append, List.length_map]
        have h1 := ih (by omega)
        have h2 := pb_len (g := g) (t := wmF t p (n : Int)) (p := p + 1) (a := a - n)
        have h3 : (a - n + 1) ^ g ≤ (a + 1) ^ g := Nat.pow_le_pow_left (by omega) g
        rw [Nat.succ_mul]
        omega
    have := go (a + 1) (Nat.le_refl _)
    rw [Nat.pow_succ, Nat.mul_comm]
    exact this
theorem pb_small {g : Nat} {t : List Int} {p a : Nat} (hg : g ≤ 5) (ha : a ≤ 15) : (pbF g t p a).length ≤ 1048576 := by
  have h1 := pb_len (g := g) (t := t) (p := p) (a := a)
  have h2 : (a + 1) ^ g ≤ 16 ^ g := Nat.pow_le_pow_left (by omega) g
  have h3 : 16 ^ g ≤ 16 ^ 5 := Nat.pow_le_pow_right (by decide) hg
  omega
theorem lineB {n : Nat} (h : n ≤ 1048576) : n < sizeLine := by rw [sizeLine_eq]; omega
theorem is_pr {H : Hp} {x : List Int × Int} {t : Addr} {u : V} (h : H t = some (.tup [u, .int x.2])) (k : Is H (tI x.1) u) : Is H (prD x) (.ref t) := is_t h (iss_cons k (iss_cons is_i iss_nil))
theorem of_pr {H : Hp} {x : List Int × Int} {v : V} (h : Is H (prD x) v) : ∃ t u, v = .ref t ∧ H t = some (.tup [u, .int x.2]) ∧ Is H (tI x.1) u := by
  obtain ⟨t, vs, rfl, ht, hi⟩ := of_t h
  obtain ⟨u1, us, rfl, hu1, hi⟩ := of_cons hi
  obtain ⟨u2, us, rfl, hu2, hi⟩ := of_cons hi
  rw [of_nil hi, of_i hu2] at ht
  exact ⟨t, u1, rfl, ht, hu1⟩
theorem ti_tup {H H' : Hp} (s : TupS H H') {t : List Int} {v : V} (h : Is H (tI t) v) : Is H' (tI t) v := by
  obtain ⟨a, rfl, ha⟩ := of_tI h
  exact is_tI (s _ _ ha)
theorem pr_tup {H H' : Hp} (s : TupS H H') {x : List Int × Int} {v : V} (h : Is H (prD x) v) : Is H' (prD x) v := by
  obtain ⟨a, u, rfl, ha, hu⟩ := of_pr h
  exact is_pr (s _ _ ha) (ti_tup s hu)
theorem prs_tup {H H' : Hp} (s : TupS H H') : ∀ {xs : List (List Int × Int)} {vs : List V}, Iss H (xs.map prD) vs → Iss H' (xs.map prD) vs
  | [], _, h => by rw [of_nil h]; exact iss_nil
  | x :: xs, _, h => by
    obtain ⟨u, us, rfl, q, r⟩ := of_cons h
    exact iss_cons (pr_tup s q) (prs_tup s r)
theorem mk_ok {d : Nat} {ps : List Lf} (hs : Snd d ps) (d1 : 1 ≤ d) (d5 : d ≤ 5) : MkOk d (ps ++ endMs d (endsF d ps)) := by
  obtain ⟨pl, p10, _⟩ := hs.good.len d1 d5
  have em : (endMs d (endsF d ps)).length = d := ends_many hs.okl hs.nn
  refine ⟨fun m hm => ?_, by rw [List.length_append]; omega⟩
  rcases List.mem_append.mp hm with h | h
  · obtain ⟨o1, o2, o3, _⟩ := hs.ok m h
    exact ⟨o1, o2, by omega⟩
  · unfold endMs at h
    obtain ⟨i, hi, h⟩ := List.mem_flatMap.mp h
    have hi := List.mem_range.mp hi
    unfold endM at h
    rw [(List.mem_replicate.mp h).2]
    exact ⟨by show 1 ≤ 1 + (i : Int); omega, by show 1 + (i : Int) < (d : Int) + 1; omega, by show (d : Int) + 1 ≤ _; omega⟩
theorem rowP_small {r : List Nat} {t : List Int} {p : Nat} (h : ∀ i : Nat, 0 ≤ t.getD i 0) (hs : t.sum + (r.sum : Nat) ≤ 15) (hl : r.length ≤ 5) : -(2 ^ 64) < rowP t p r ∧ rowP t p r < 2 ^ 64 := by
  obtain ⟨a, b⟩ := rowP_le (p := p) h hs
  have : (6435 : Int) ^ r.length ≤ 6435 ^ 5 := by
    have : r.length = 0 ∨ r.length = 1 ∨ r.length = 2 ∨ r.length = 3 ∨ r.length = 4 ∨ r.length = 5 := by omega
    rcases this with e | e | e | e | e | e <;> rw [e] <;> decide
  omega
theorem told2_m {K : PySem.W.Frag} {H : Hp} {wt : List Lf} {m : Lf} {wvs : List V} {v : V} (h : Iss H (wt.map lf) wvs) (k : Is H (lf m) v) : Told2 K H 1 wvs v (fun j => decide (wt.getD j (0, 0, 0) = m)) := by
  obtain ⟨a, b, c⟩ := told_m (K := K) h k
  exact ⟨a, fun j z hz => ⟨(b j z hz).1, (b j z hz).2.told⟩, c⟩
theorem sset_nd (xs : List Lf) : (sset xs).Nodup := (sset_pw xs).imp fun {a b} h e => by subst e; exact ltLf_no h
theorem fold_take {α β : Type} (f : β → α → β) (b : β) (xs : List α) (j : Nat) (x : α) (h : xs[j]? = some x) : (xs.take (j + 1)).foldl f b = f ((xs.take j).foldl f b) x := by
  rw [List.take_add_one, h, List.foldl_append]
  rfl
theorem tf_cons (cnt : Lf → Nat) (m : Lf) (ms : List Lf) : TF cnt (m :: ms) = rsum (TF cnt ms) (m.1 - 1).toNat (spR (m.2.1 - m.1 - 1).toNat (cnt m)) := by funext t; rfl
theorem fold_step_P {p : Nat} {rs : List (List Nat)} {D : Tab} {j : Nat} {x : List Int × Int} {acc : Tab} (h : D[j]? = some x) : stP p rs (D.take (j + 1)) acc = inP x.1 x.2 p rs (stP p rs (D.take j) acc) := fold_take _ _ D j x h
theorem tup_dict {H : Hp} {d : Addr} {kvs : List (List Key × V)} {o : HO} (h : H d = some (.dT kvs)) : TupS H (upd H d o) := (LTS.dict h).2
def tabL (d : Nat) (L : Nat → Int) : List (Key × V) := (List.range d).map fun i : Nat => (Sum.inl (1 + (i : Int)), V.int (L i))
theorem tab_congr {d : Nat} {L L' : Nat → Int} (h : ∀ t, t < d → L t = L' t) : tabL d L = tabL d L' := by
  unfold tabL
  refine List.map_congr_left fun t ht => ?_
  rw [h t (List.mem_range.mp ht)]
theorem dk_congr {d : Nat} {L L' : Nat → Int} (h : ∀ t, t < d → L t = L' t) : some (HO.dK (tabL d L)) = some (HO.dK (tabL d L')) := by rw [tab_congr h]
theorem val_map {L : Nat → Int} {i : Nat} : ∀ l : List Nat, i ∈ l → valV (l.map fun i : Nat => ((Sum.inl (1 + (i : Int)) : Key), V.int (L i))) (Sum.inl (1 + (i : Int))) = some (.int (L i))
  | j :: l, h => by
    rw [List.map_cons]
    by_cases e : j = i
    · subst e
      exact valV_pos rfl
    · rw [valV_neg (by intro z; have := Sum.inl.inj z; omega)]
      exact val_map l (by rcases List.mem_cons.mp h with h | h; exact absurd h.symm e; exact h)
theorem val_tab {d : Nat} {L : Nat → Int} {i : Nat} (h : i < d) : valV (tabL d L) (Sum.inl (1 + (i : Int))) = some (.int (L i)) := val_map _ (List.mem_range.mpr h)
theorem put_tab {d : Nat} {L : Nat → Int} {i : Nat} {v : Int} (h : i < d) : putK (tabL d L) (Sum.inl (1 + (i : Int))) (.int v) = tabL d fun t => if t = i then v else L t := by
  unfold putK
  rw [valV_any, val_tab h, if_pos (show (some (V.int (L i))).isSome = true from rfl)]
  unfold tabL
  rw [List.map_map]
  refine List.map_congr_left fun t _ => ?_
  show (if (Sum.inl (1 + (t : Int)) : Key) = Sum.inl (1 + (i : Int)) then _ else _) = _
  by_cases e : t = i
  · subst e
    rw [if_pos rfl]
    show _ = (_, V.int (if t = t then v else L t))
    rw [if_pos rfl]
  · rw [if_neg (by intro z; have := Sum.inl.inj z; omega)]
    show _ = (_, V.int (if t = i then v else L t))
    rw [if_neg e]
theorem val_out {L : Nat → Int} {i : Nat} : ∀ l : List Nat, ¬ i ∈ l → valV (l.map fun i : Nat => ((Sum.inl (1 + (i : Int)) : Key), V.int (L i))) (Sum.inl (1 + (i : Int))) = none
  | [], _ => rfl
  | j :: l, h => by
    rw [List.map_cons, valV_neg (by intro z; have := Sum.inl.inj z; exact h (by simp; omega))]
    exact val_out l fun z => h (by simp [z])
theorem put_next {L : Nat → Int} (i : Nat) : putK (tabL i L) (Sum.inl (1 + (i : Int))) (.int (L i)) = tabL (i + 1) L := by
  unfold tabL
  rw [putK_new _ (val_out _ (by simp)), List.range_succ, List.map_append]
  rfl
theorem tab_len {d : Nat} {L : Nat → Int} : (tabL d L).length = d := by unfold tabL; simp
theorem nat_of {x : Int} {d : Nat} (h1 : 1 ≤ x) (h2 : x ≤ d) : ∃ i : Nat, x = 1 + (i : Int) ∧ i < d ∧ (x - 1).toNat = i := ⟨(x - 1).toNat, by omega, by omega, rfl⟩
theorem dget_tab {H : Hp} {st : Addr} {d : Nat} {L : Nat → Int} {i : Nat} (h : H st = some (.dK (tabL d L))) (hi : i < d) : DGet H st (.int (1 + (i : Int))) (some (.int (L i))) := by
  have := DGet.k (k := Sum.inl (1 + (i : Int))) h
  rw [val_tab hi] at this
  exact this
theorem dput_tab {H : Hp} {st : Addr} {d : Nat} {L : Nat → Int} {i : Nat} {v : Int} (h : H st = some (.dK (tabL d L))) (hi : i < d) (hd : d ≤ 5) : DPut H st (.int (1 + (i : Int))) (.int v) (upd H st (.dK (tabL d fun t => if t = i then v else L t))) := by
  have := DPut.k (k := Sum.inl (1 + (i : Int))) (v := .int v) h (small1000 (by rw [tab_len]; omega))
  rw [put_tab hi] at this
  exact this
theorem rng_get {i n : Nat} {lo : Int} {x : V} (h : (rngL lo n)[i]? = some x) : i < n ∧ x = .int (lo + (i : Int)) := by
  unfold rngL at h
  rw [List.getElem?_map] at h
  obtain ⟨k, hk, rfl⟩ := Option.map_eq_some_iff.mp h
  have hi : i < n := by have := (List.getElem?_eq_some_iff.mp hk).1; simpa using this
  rw [List.getElem?_range hi] at hk
  cases hk
  exact ⟨hi, rfl⟩
def spGath (_ : PySem.W.Frag) : Sp := fun vs H Q _ => ∃ (ta : Addr) (pw : V) (d : Nat) (ps : List (Int × Int)), vs = [.ref ta, pw] ∧ H ta = some (.lst (rngL 1 d)) ∧ Is H (pts ps) pw ∧ d ≤ 5 ∧ (∀ p ∈ ps, Okp d p) ∧ ∀ q H', Same H H' → H q = none → H' q = some (.dK (tabL d (labels ps))) → Q (.ref q) H'
def spMany (_ : PySem.W.Frag) : Sp := fun vs H Q _ => ∃ (ta : Addr) (pw : V) (d : Nat) (ps : List (Int × Int)), vs = [.ref ta, pw] ∧ H ta = some (.lst (rngL 1 d)) ∧ Is H (pts ps) pw ∧ d ≤ 5 ∧ (∀ p ∈ ps, Okp d p) ∧ ∀ H', Same H H' → Q (.int (fixes d (labels ps)).length) H'
def spParts : Sp := fun vs H Q _ => ∃ (d : Nat) (dv : V) (ps : List Lf), vs = [.int d, dv] ∧ Is H (lfs ps) dv ∧ 1 ≤ d ∧ d ≤ 5 ∧ ps.length ≤ 20 ∧ (∀ p ∈ ps, Okl d p) ∧ ∀ H', Same H H' → Q (.int (fixes d (labels (pairs ps))).length) H'
def spWorth (_ : PySem.W.Frag) : Sp := fun vs H Q _ => ∃ (dv : V) (ps : List Lf) (d : Nat), vs = [dv] ∧ Is H (lfs ps) dv ∧ (∀ p ∈ ps, Okw d p) ∧ Q (.int (worthF ps)) H
/-- the bounds that are asked -/
def Bnd5 (lo hi : Int) : Prop := (lo = 1 ∧ hi = 5) ∨ (lo = 0 ∧ hi = 6) ∨ (lo = 0 ∧ hi = 3)
def spBet5 (c : Addr) : Sp := fun vs H Q E => ∃ v lo hi, vs = [v, .int lo, .int hi] ∧ Thing H v ∧ Bnd5 lo hi ∧ (Within lo hi v → Q .non H) ∧ (¬ Within lo hi v → E (.ref c) none H)
def Wd (v u : V) : Prop := ∃ d k : Nat, v = .int d ∧ u = .int k ∧ Wide d k
def spWid (c : Addr) : Sp := fun vs H Q E => ∃ v u, vs = [v, u] ∧ Thing H v ∧ Thing H u ∧ (Wd v u → Q .non H) ∧ (¬ Wd v u → E (.ref c) none H)
def spDrw (c : Addr) : Sp := fun vs H Q E => ∃ v u, vs = [v, u] ∧ Thing H v ∧ Thing H u ∧ (∀ d k : Nat, v = .int d → u = .int k → Wide d k → W4 d k ∧ ∀ (L : List (List Lf)) l H', L.Perm (rawD d k) → Same H H' → H l = none → Is (nw H H') (.l (L.map lfs)) (.ref l) → Q (.ref l) H') ∧ (¬ Wd v u → E (.ref c) none H)
def spCnt (c : Addr) : Sp := fun vs H Q E => ∃ v u, vs = [v, u] ∧ Thing H v ∧ Thing H u ∧ (∀ d k : Nat, v = .int d → u = .int k → Wide d k → W4 d k ∧ ∀ z H', Same H H' → Q (.int z) H') ∧ (¬ Wd v u → E (.ref c) none H)
def spPap (c : Addr) : Sp := fun vs H _ E => ∃ v u, vs = [v, u] ∧ Thing H v ∧ Thing H u ∧ ¬ Wd v u ∧ E (.ref c) none H
def spLAsk (c : Addr) : Sp := fun vs H Q E => ∃ (wt : Int) (v u : V), vs = [.int wt, v, u] ∧ Thing H v ∧ Thing H u ∧ (Wd v u → 0 ≤ wt ∧ wt < 3 ∧ ∃ d k : Nat, v = .int d ∧ u = .int k ∧ W4 d k ∧ (wt = 0 → ∀ l xs H', Same H H' → H' l = some (.lst xs) → Q (.ref l) H') ∧ (wt ≠ 0 → ∀ z H', Same H H' → Q (.int z) H')) ∧ (¬ Wd v u → E (.ref c) none H)
def spRefu (_ : PySem.W.Frag) : Sp := fun vs H Q _ => ∃ (wt : Int) (v u : V), vs = [.int wt, v, u] ∧ Thing H v ∧ Thing H u ∧ ¬ Wd v u ∧ ∀ H', Same H H' → Q (.bl true) H'
def spTol (_ : PySem.W.Frag) : Sp := fun vs H Q _ => ∃ (wt : Int) (d k : Nat), vs = [.int wt, .int d, .int k] ∧ 0 ≤ wt ∧ wt < 3 ∧ W4 d k ∧ ∀ H', Same H H' → Q (.bl true) H'
def OddV (v : V) : Prop := ∀ z : Int, v = .int z → z < 0 ∨ 7 ≤ z
def spOddP (_ : PySem.W.Frag) : Sp := fun vs H Q _ => ∃ (b : Addr) (far st : Int) (d k : Nat), vs = [.ref b, .int d, .int k] ∧ Bag H b far st ∧ 0 ≤ far ∧ 0 ≤ st ∧ W4 d k ∧ ∀ t v u far' st' H', But b H H' → Bag H' b far' st' → 0 ≤ far' → 0 ≤ st' → H' t = some (.tup [v, u]) → Thing H' v → Thing H' u → ¬ Wd v u → Q (.ref t) H'
theorem W4.wide {d k : Nat} (h : W4 d k) : Wide d k := by unfold W4 at h; unfold Wide; omega
section
variable {P : Program} {w : World} {K : PySem.W.Frag} {mg : Str → Option Value} {base : Heap} (T : Fns K mg)
theorem ok__law_cell_at : FnOk P w K mg base CX0 1 T.f__law_cell_at T.d__law_cell_at ["_law_script", "_law_k"] (spCell K) := by
  refine T.F__law_cell_at.ok sc__law_cell_at (fun vs H Q E h => ?_) (fun cdv A outer s H vs Q E hr h => ?_)
  · obtain ⟨_, _, _, rfl, _⟩ := h
    rfl
  · obtain ⟨a, ns, k, rfl, hS, h0, kk⟩ := h
    refine ⟨_, (pss_cons (ps_if (pt_cmpR op_lt (pv 1) (pe_callB call_len_seq (by rfl) T.n_len boot_len (pa_cons (pv 0) pa_nil)) (nomark _)) (pss_one (ps_ret (pe_ix ix_list (pv 0) (pv 1) (fun _ _ => rfl)))) pss_nil)
      (pss_one (ps_ret pe_int))), ?_⟩
    refine ⟨_, rfl, _, rfl, a, _, rfl, .inl hS, _, _, rfl, rfl, _, rfl, ?_⟩
    refine iteD (fun h => ?_) (fun _ => kk 0)
    rw [List.length_map] at h
    have hk : k.toNat < ns.length := by omega
    have e : ((k.toNat : Nat) : Int) = k := by omega
    exact ⟨_, rfl, _, rfl, a, _, k, _, rfl, rfl, hS, by rw [← e]; exact at_int hk, kk _⟩
theorem ok__law_bag : FnOk P w K mg base CX0 1 T.f__law_bag T.d__law_bag ["_law_cell", "_law_place"] (spBag K) := by
  refine T.F__law_bag.ok sc__law_bag (fun vs H Q E h => ?_) (fun cdv A outer s H vs Q E hr h => ?_)
  · obtain ⟨_, _, rfl, _⟩ := h
    rfl
  · obtain ⟨c, pl, rfl, h0, h1, kk⟩ := h
    refine ⟨_, (pss_cons (ps_set (i := 2) sc__law_bag.nd rfl (by first | exact Or.inl rfl | exact Or.inr rfl) (pe_callB call_abs (by rfl) T.n_abs boot_abs (pa_cons (pv 0) pa_nil)))
      (pss_cons (ps_if (pt_cmpR op_lt (pv 2) (pe_op op_pow pe_int pe_int) (nomark _)) (pss_one (ps_set (i := 2) sc__law_bag.nd rfl (by first | exact Or.inl rfl | exact Or.inr rfl) pe_int)) pss_nil)
      (pss_one (ps_ret (pe_lst (pa_cons (pv 2) (pa_cons (pe_op op_mod (pe_op op_add (pe_op op_add (pe_op op_mul (pe_op op_mod (pv 0) pe_int) pe_int) (pe_op op_mul pe_int (pv 1))) pe_int) pe_int) pa_nil))))))), ?_⟩
    refine ⟨_, rfl, c, rfl, ?_⟩
    refine ⟨_, rfl, 10, 18, rfl, rfl, ⟨by decide, by decide, by decide⟩, _, _, rfl, rfl, _, rfl, ?_⟩
    refine iteD (fun _ => ?_) (fun _ => ?_)
    · refine ⟨_, rfl, _, rfl, _, _, rfl, rfl, (show (0 : Int) < 2147483647 by decide), _, _, rfl, rfl, .inr ⟨by decide, by decide⟩, _, rfl, _, _, rfl, rfl, .inl ⟨by decide, by decide⟩, _, _, rfl, rfl, _, _, rfl, rfl, _, _, rfl, rfl, (show (0 : Int) < 2147483647 by decide), ?_⟩
      exact ⟨(by show 2 ≤ sizeLine; decide), fun b nb => kk b _ _ _ (Same.new nb) nb upd_same (by omega) (Int.emod_nonneg _ (by decide))⟩
    · refine ⟨_, rfl, _, rfl, _, _, rfl, rfl, (show (0 : Int) < 2147483647 by decide), _, _, rfl, rfl, .inr ⟨by decide, by decide⟩, _, rfl, _, _, rfl, rfl, .inl ⟨by decide, by decide⟩, _, _, rfl, rfl, _, _, rfl, rfl, _, _, rfl, rfl, (show (0 : Int) < 2147483647 by decide), ?_⟩
      exact ⟨(by show 2 ≤ sizeLine; decide), fun b nb => kk b _ _ _ (Same.new nb) nb upd_same (by split <;> omega) (Int.emod_nonneg _ (by decide))⟩
theorem ok__law_mixed : FnOk P w K mg base CX0 1 T.f__law_mixed T.d__law_mixed ["_law_bag_here"] (spMixed K) := by
  refine T.F__law_mixed.ok sc__law_mixed (fun vs H Q E h => ?_) (fun cdv A outer s H vs Q E hr h => ?_)
  · obtain ⟨_, _, _, rfl, _⟩ := h
    rfl
  · obtain ⟨b, far, st, rfl, hb, kk⟩ := h
    refine ⟨_, (pss_cons (ps_asg (pe_op op_mod (pe_op op_add (pe_op op_mul (pe_ix ix_list (pv 0) pe_int (fun _ _ => rfl)) pe_int) pe_int) pe_int) (pg_sub (pv 0) pe_int set_list))
      (pss_one (ps_ret (pe_op op_fdiv (pe_op op_mod (pe_op op_mul (pe_ix ix_list (pv 0) pe_int (fun _ _ => rfl)) pe_int) pe_int) pe_int)))), ?_⟩
    refine ⟨_, rfl, b, _, _, _, rfl, rfl, SqL.of hb, by rfl, _, _, rfl, rfl, .inr ⟨by decide, by decide⟩, _, _, rfl, rfl, _, _, rfl, rfl, (show (0 : Int) < 2147483647 by decide), _, rfl, b, _, _, 1, rfl, rfl, hb, by rfl, ?_⟩
    refine ⟨_, rfl, b, _, _, _, rfl, rfl, SqL.of upd_same, by rfl, _, _, rfl, rfl, .inr ⟨by decide, by decide⟩, _, _, rfl, rfl, (show (0 : Int) < 2147483629 by decide), _, _, rfl, rfl, ⟨by decide, by decide⟩, ?_⟩
    refine kk _ _ ?_ (Int.emod_nonneg _ (by decide))
    omega
theorem ok__law_digit : FnOk P w K mg base CX0 2 T.f__law_digit T.d__law_digit ["_law_bag_here", "_law_many"] (spDigit K) := by
  refine T.F__law_digit.ok sc__law_digit (fun vs H Q E h => ?_) (fun cdv A outer s H vs Q E hr h => ?_)
  · obtain ⟨_, _, _, _, rfl, _⟩ := h
    rfl
  · obtain ⟨b, many, far, st, rfl, hb, hf, hst, hm, hm2, kk⟩ := h
    refine ⟨_, (pss_cons (ps_if (pt_cmpR op_gt (pe_ix ix_list (pv 0) pe_int (fun _ _ => rfl)) pe_int (nomark _)) (pss_cons (ps_set (i := 2) sc__law_digit.nd rfl (by first | exact Or.inl rfl | exact Or.inr rfl) (pe_op op_mod (pe_ix ix_list (pv 0) pe_int (fun _ _ => rfl)) (pv 1)))
      (pss_cons (ps_asg (pe_op op_fdivB (pe_ix ix_list (pv 0) pe_int (fun _ _ => rfl)) (pv 1)) (pg_sub (pv 0) pe_int set_list))
      (pss_one (ps_ret (pv 2))))) pss_nil)
      (pss_cons (ps_set (i := 2) sc__law_digit.nd rfl (by first | exact Or.inl rfl | exact Or.inr rfl) (pe_call (ok__law_mixed T) (hr.mono (by decide)) (by rfl) T.m__law_mixed T.F__law_mixed.kp T.B__law_mixed .nil pass0 (pa_cons (pv 0) pa_nil)))
      (pss_cons (ps_if (pt_cmpR op_gt (pv 1) pe_int (nomark _)) (pss_one (ps_for PassesOwn.never rfl (pi_range1 (by rfl) T.n_range (pa_cons pe_int pa_nil)) (pg_name (i := 3) sc__law_digit.nd rfl (by first | exact Or.inl rfl | exact Or.inr rfl)) (pss_one (ps_set (i := 2) sc__law_digit.nd rfl (by first | exact Or.inl rfl | exact Or.inr rfl) (pe_op op_add (pe_op op_mul (pv 2) pe_int) (pe_call (ok__law_mixed T) (hr.mono (by decide)) (by rfl) T.m__law_mixed T.F__law_mixed.kp T.B__law_mixed .nil pass0 (pa_cons (pv 0) pa_nil))))))) pss_nil)
      (pss_one (ps_ret (pe_op op_mod (pv 2) (pv 1))))))), ?_⟩
    refine ⟨_, rfl, b, _, _, _, rfl, rfl, SqL.of hb, by rfl, _, _, rfl, rfl, _, rfl, ?_⟩
    refine iteD (fun h => ?_) (fun h => ?_)
    · refine ⟨_, rfl, b, _, _, _, rfl, rfl, SqL.of hb, by rfl, _, rfl, _, _, rfl, rfl, hm, ?_⟩
      refine ⟨_, rfl, b, _, _, _, rfl, rfl, SqL.of hb, by rfl, _, rfl, _, _, rfl, rfl, bits60 hm hm2, _, rfl, b, _, _, 0, rfl, rfl, hb, by rfl, ?_⟩
      exact ⟨_, rfl, kk _ _ _ (Int.emod_nonneg _ (by omega)) (Int.emod_lt_of_pos _ hm) (Int.fdiv_nonneg hf (by omega)) hst⟩
    · refine ⟨_, rfl, b, far, st, rfl, hb, fun z st' hz hst' => ?_⟩
      refine ⟨_, rfl, _, _, rfl, rfl, _, rfl, ?_⟩
      refine iteD (fun h => ?_) (fun h => ?_)
      · refine ⟨7, rfl, by decide, by decide, for_range (n := 7) (fun i σ H2 => ∃ (z : Int) (v : Option V) (st' : Int), σ = [some (.ref b), some (.int many), some (.int z), v] ∧ 0 ≤ z ∧ 0 ≤ st' ∧ H2 = upd H b (.lst [.int far, .int st'])) ⟨z, _, st', rfl, hz, hst', rfl⟩ ?_ ?_⟩
        · rintro i σ H2 hi ⟨z, v, st', rfl, hz, hst', rfl⟩
          refine ⟨_, rfl, _, _, rfl, rfl, .inr ⟨by decide, by decide⟩, _, rfl, b, far, st', rfl, upd_same, fun z2 st2 hz2 hst2 => ⟨_, _, rfl, rfl, ?_⟩⟩
          exact ⟨_, _, st2, rfl, by omega, hst2, upd_upd⟩
        · rintro σ H2 ⟨z, v, st', rfl, hz, hst', rfl⟩
          exact ⟨_, rfl, _, rfl, _, _, rfl, rfl, hm, kk _ _ _ (Int.emod_nonneg _ (by omega)) (Int.emod_lt_of_pos _ hm) hf hst'⟩
      · exact ⟨_, rfl, _, rfl, _, _, rfl, rfl, hm, kk _ _ _ (Int.emod_nonneg _ (by omega)) (Int.emod_lt_of_pos _ hm) hf hst'⟩
theorem ok_is_whole : FnOk P w K mg base CX0 1 T.f_is_whole T.d_is_whole ["thing"] sp_whole := by
  refine T.F_is_whole.ok sc_is_whole (fun vs H Q E h => ?_) (fun cdv A outer s H vs Q E hr h => ?_)
  · obtain ⟨_, rfl, _⟩ := h
    rfl
  · obtain ⟨v, rfl, ht, kk⟩ := h
    refine ⟨_, (pss_one (ps_ret (pe_and (pe_callB call_isi (by rfl) T.n_isinstance boot_isinstance (pa_cons (pv 0) (pa_cons (pe_bltn (v := .ty "int") (by rfl) T.n_int boot_int (by rfl)) pa_nil))) (pe_one (pe_not (pe_callB call_isi (by rfl) T.n_isinstance boot_isinstance (pa_cons (pv 0) (pa_cons (pe_bltn (v := .ty "bool") (by rfl) T.n_bool boot_bool (by rfl)) pa_nil)))))))), ?_⟩
    rcases ht with ⟨i, rfl⟩ | ⟨b, rfl⟩ | rfl | ⟨x, rfl⟩ | ⟨a, xs, rfl, ha⟩ | ⟨a, xs, rfl, ha⟩
    · exact ⟨_, rfl, _, "int", _, true, rfl, .int i, kit_same, true, rfl, iteT ⟨_, rfl, _, "bool", _, false, rfl, .int i, kit_int_bool, false, rfl, kk⟩⟩
    · exact ⟨_, rfl, _, "int", _, true, rfl, .bl b, kit_bool_int, true, rfl, iteT ⟨_, rfl, _, "bool", _, true, rfl, .bl b, kit_same, true, rfl, kk⟩⟩
    · exact ⟨_, rfl, _, "int", _, false, rfl, .non, kit_none_int, false, rfl, iteF kk⟩
    · exact ⟨_, rfl, _, "int", _, false, rfl, .str x, kit_str_int, false, rfl, iteF kk⟩
    · exact ⟨_, rfl, _, "int", _, false, rfl, .lst ha, kit_list_int, false, rfl, iteF kk⟩
    · exact ⟨_, rfl, _, "int", _, false, rfl, .tup ha, kit_tuple_int, false, rfl, iteF kk⟩
theorem ok_need_between : FnOk P w K mg base (CX1 P w) 2 T.f_need_between T.d_need_between ["thing", "least", "greatest"] (spBet5 T.c_NoBound) := by
  refine T.F_need_between.okx sc_need_between (fun vs H Q E h => ?_) (fun cdv A outer s H vs Q E hr h hR hp => ?_)
  · obtain ⟨_, _, _, rfl, _⟩ := h
    rfl
  · obtain ⟨v, lo, hi, rfl, ht, hb, kk, ke⟩ := h
    refine ⟨_, (pss_one (ps_if (pw_or (pt_not (pt_val (pe_call (ok_is_whole T) (hr.mono (by decide)) (by rfl) T.m_is_whole T.F_is_whole.kp T.B_is_whole .nil pass0 (pa_cons (pv 0) pa_nil)))) (pw_or (pt_cmpR op_lt (pv 0) (pv 1) (nomark _)) (pw_or1 (pt_cmpR op_gt (pv 0) (pv 2) (nomark _))))).pt (pss_one (ps_raise hR (by rfl) T.m_NoBound T.x_NoBound rfl (pa_cons (pe_fstr (pj_cons pe_str (pj_cons (pe_fint (pv 1)) (pj_cons pe_str (pj_cons (pe_fint (pv 2)) pj_nil))))) pa_nil))) pss_nil)), ?_⟩
    have say : ∀ (R : VK), (∀ z, R (.str z) H) → tJc (tC (.str "not a whole number from ")) (tJc (fun σ H Q => tVar 1 σ H fun x H1 => ∃ i, x = .int i ∧ i.natAbs.log2 < 1920 ∧ Q (.str (toString i)) H1) (tJc (tC (.str " to ")) (tJc (fun σ H Q => tVar 2 σ H fun x H1 => ∃ i, x = .int i ∧ i.natAbs.log2 < 1920 ∧ Q (.str (toString i)) H1) tJn)))
        Str.empty [some v, some (.int lo), some (.int hi)] H R := fun R hr => by
      rcases hb with ⟨rfl, rfl⟩ | ⟨rfl, rfl⟩ | ⟨rfl, rfl⟩ <;>
        exact ⟨_, rfl, by decide +kernel, _, rfl, _, rfl, by decide +kernel, _, rfl, by decide +kernel, _, rfl, by decide +kernel, _, rfl, _, rfl, by decide +kernel, _, rfl, by decide +kernel, by decide +kernel, hr _⟩
    have no : ¬ Within lo hi v → ∀ D : Ends, tRaise T.c_NoBound E (tCons (fun σ H Q => tJc (tC (.str "not a whole number from ")) (tJc (fun σ H Q => tVar 1 σ H fun x H1 => ∃ i, x = .int i ∧ i.natAbs.log2 < 1920 ∧ Q (.str (toString i)) H1) (tJc (tC (.str " to ")) (tJc (fun σ H Q => tVar 2 σ H fun x H1 => ∃ i, x = .int i ∧ i.natAbs.log2 < 1920 ∧ Q (.str (toString i)) H1) tJn)))
        Str.empty σ H Q) tNil) D [some v, some (.int lo), some (.int hi)] H := fun hn D => say _ fun z => ⟨(by show 1 ≤ sizeLine; decide), ke hn⟩
    refine ⟨v, rfl, v, rfl, ht, isI v, rfl, ?_⟩
    cases hv : isI v with
    | false => exact iteT (iteT (no (fun hw => by rw [within_int hw] at hv; cases hv) _))
    | true =>
      obtain ⟨i, rfl⟩ : ∃ i, v = .int i := by
        cases v <;> first | exact ⟨_, rfl⟩ | cases hv
      refine iteF ⟨_, rfl, _, rfl, i, lo, rfl, rfl, _, rfl, iteD (fun hl => ?_) (fun hl => ?_)⟩
      · exact iteT (no (fun ⟨j, e, h1, h2⟩ => by cases e; omega) _)
      · refine ⟨_, rfl, _, rfl, i, hi, rfl, rfl, _, rfl, iteD (fun hg => ?_) (fun hg => ?_)⟩
        · exact no (fun ⟨j, e, h1, h2⟩ => by cases e; omega) _
        · exact kk ⟨i, rfl, by omega, by omega⟩
theorem ok_need_degree : FnOk P w K mg base CX0 3 T.f_need_degree T.d_need_degree ["d"] (spDegQ K) := by
  refine T.F_need_degree.ok sc_need_degree (fun vs H Q E h => ?_) (fun cdv A outer s H vs Q E hr h => ?_)
  · obtain ⟨_, rfl, _⟩ := h
    rfl
  · obtain ⟨i, rfl, i1, i5, kk⟩ := h
    refine ⟨_, (pss_one (ps_expr (pe_call (ok_need_between T) (hr.mono (by decide)) (by rfl) T.m_need_between T.F_need_between.kp T.B_need_between .nil passE0 (pa_cons (pv 0) (pa_cons pe_int (pa_cons pe_int pa_nil)))))), ?_⟩
    exact ⟨_, rfl, .int i, 1, 5, rfl, .inl ⟨_, rfl⟩, .inl ⟨rfl, rfl⟩, fun _ => kk, fun hn => absurd ⟨_, rfl, i1, i5⟩ hn⟩
theorem ok_need_wide : FnOk P w K mg base (CX1 P w) 3 T.f_need_wide T.d_need_wide ["d", "k"] (spWid T.c_NoBound) := by
  refine T.F_need_wide.okx sc_need_wide (fun vs H Q E h => ?_) (fun cdv A outer s H vs Q E hr h hR hp => ?_)
  · obtain ⟨_, _, rfl, _⟩ := h
    rfl
  · obtain ⟨v, u, rfl, ht, hu, kk, ke⟩ := h
    refine ⟨_, (pss_cons (ps_expr (pe_call (ok_need_between T) (hr.mono (by decide)) (by rfl) T.m_need_between T.F_need_between.kp T.B_need_between .nil hp (pa_cons (pv 0) (pa_cons pe_int (pa_cons pe_int pa_nil)))))
      (pss_one (ps_expr (pe_call (ok_need_between T) (hr.mono (by decide)) (by rfl) T.m_need_between T.F_need_between.kp T.B_need_between .nil hp (pa_cons (pv 1) (pa_cons pe_int (pa_cons (pe_dgetM (pe_glob (v := .ref T.a_WIDE) (by rfl) T.m_WIDE (by rfl)) (pv 0) (fun _ _ => rfl)) pa_nil))))))), ?_⟩
    refine ⟨_, rfl, v, 1, 5, rfl, ht, .inl ⟨rfl, rfl⟩, fun ⟨i, ei, i1, i2⟩ => ?_, fun hn => ke fun ⟨d, k, e1, _, hN⟩ => hn ⟨_, e1, by unfold Wide at hN; omega, by unfold Wide at hN; omega⟩⟩
    subst ei
    obtain ⟨d, rfl⟩ := Int.eq_ofNat_of_zero_le (show 0 ≤ i by omega)
    have hd : d = 1 ∨ d = 2 ∨ d = 3 ∨ d = 4 ∨ d = 5 := by omega
    obtain ⟨hi, hl, hb, hN⟩ : ∃ hi : Int, ([(1, 6), (2, 6), (3, 6), (4, 6), (5, 3)] : List (Int × Int)).lookup (d : Int) = some hi ∧ Bnd5 0 hi ∧ ∀ k : Nat, Wide d k ↔ (k : Int) ≤ hi := by
      rcases hd with rfl | rfl | rfl | rfl | rfl
      · exact ⟨6, rfl, .inr (.inl ⟨rfl, rfl⟩), fun k => by unfold Wide; omega⟩
      · exact ⟨6, rfl, .inr (.inl ⟨rfl, rfl⟩), fun k => by unfold Wide; omega⟩
      · exact ⟨6, rfl, .inr (.inl ⟨rfl, rfl⟩), fun k => by unfold Wide; omega⟩
      · exact ⟨6, rfl, .inr (.inl ⟨rfl, rfl⟩), fun k => by unfold Wide; omega⟩
      · exact ⟨3, rfl, .inr (.inr ⟨rfl, rfl⟩), fun k => by unfold Wide; omega⟩
    refine ⟨_, rfl, _, rfl, T.a_WIDE, _, d, hi, rfl, T.D_WIDE, rfl, hl, u, 0, hi, rfl, hu, hb, fun ⟨j, ej, j1, j2⟩ => ?_, fun hn => ke fun ⟨d', k, e1, e2, hNk⟩ => ?_⟩
    · obtain ⟨k, rfl⟩ := Int.eq_ofNat_of_zero_le j1
      exact kk ⟨d, k, rfl, ej, (hN k).mpr j2⟩
    · obtain rfl : d' = d := by have := V.int.inj e1; omega
      exact hn ⟨k, e2, by omega, (hN k).mp hNk⟩
theorem ok_ends_at : FnOk P w K mg base CX0 4 T.f_ends_at T.d_ends_at ["d", "drawing"] (spEndQ K) := by
  refine T.F_ends_at.ok sc_ends_at (fun vs H Q E h => ?_) (fun cdv A outer s H vs Q E hr h => ?_)
  · obtain ⟨_, _, _, rfl, _⟩ := h
    rfl
  · obtain ⟨n, dv, ps, rfl, n1', n5', hd, hok, k2⟩ := h
    refine ⟨_, (pss_cons (ps_expr (pe_call (ok_need_degree T) (hr.mono (by decide)) (by rfl) T.m_need_degree T.F_need_degree.kp T.B_need_degree .nil pass0 (pa_cons (pv 0) pa_nil)))
      (pss_cons (ps_set (i := 2) sc_ends_at.nd rfl (by first | exact Or.inl rfl | exact Or.inr rfl) (pe_op op_repN (pe_lstN (pa_cons pe_int pa_nil)) (pv 0)))
      (pss_cons (ps_for PassesOwn.never rfl (pi_list (pv 1)) (pg_tup rfl (pgs_cons (pg_name (i := 3) sc_ends_at.nd rfl (by first | exact Or.inl rfl | exact Or.inr rfl)) (pgs_cons (pg_name (i := 4) sc_ends_at.nd rfl (by first | exact Or.inl rfl | exact Or.inr rfl)) (pgs_cons (pg_name (i := 5) sc_ends_at.nd rfl (by first | exact Or.inl rfl | exact Or.inr rfl)) pgs_nil)))) (pss_cons (ps_augS (pv 2) (pe_op op_sub (pv 3) pe_int) get_list (pv 5) ip_sub set_list)
      (pss_one (ps_augS (pv 2) (pe_op op_sub (pv 4) pe_int) get_list (pv 5) ip_add set_list))))
      (pss_one (ps_ret (pv 2)))))), ?_⟩
    refine ⟨_, rfl, n, rfl, by omega, by omega, ?_⟩
    refine ⟨(by show 1 ≤ sizeLine; decide), fun l1 H1 n1 s1 h1 => ?_⟩
    refine ⟨_, rfl, .i 1, n, is_l h1 (iss_cons is_i iss_nil), rfl, by omega, by omega, Nat.le_of_lt (small1000 (by omega)), fun l H2 n2 s2 h2 => ?_⟩
    rw [Int.toNat_natCast] at h2
    obtain ⟨_, vs2, e2, hl2, hi2⟩ := of_l h2
    cases e2
    rw [← List.map_replicate] at hi2
    rw [iss_ints hi2] at hl2
    have s12 := s1.trans s2
    obtain ⟨da, dvs, rfl, hda, hdi⟩ := of_l hd
    have hlen : dvs.length = ps.length := by rw [hdi.length, List.length_map]
    refine ⟨_, rfl, da, rfl, ⟨_, SqL.of (s12 _ _ hda)⟩, for_list (xs := dvs) (fun i σ H3 => (∃ v3 v4 v5, σ = [some (.int n), some (.ref da), some (.ref l), v3, v4, v5]) ∧ Same H H3 ∧ H3 l = some (.lst (((ps.take i).foldl lstep (List.replicate n 1)).map V.int)))
      ⟨⟨none, none, none, rfl⟩, s12, hl2⟩ (fun i σ H3 _ h => SqL.of (h.2.1 _ _ hda)) ?_ ?_⟩
    · rintro i y σ H3 hi ⟨⟨v3, v4, v5, rfl⟩, s3, hl3⟩
      obtain ⟨dd, hdd, hy⟩ := hdi.of_get hi
      rw [List.getElem?_map] at hdd
      obtain ⟨p, hp', rfl⟩ := Option.map_eq_some_iff.mp hdd
      obtain ⟨t, rfl, hta⟩ := of_lf hy
      obtain ⟨o1, o2, o3, o4⟩ := hok p (List.mem_of_getElem? hp')
      have el := (fold_at (ps.take i) (List.replicate n 1) (by simp) fun q hq => hok q (List.mem_of_mem_take hq)).1
      have en : (ps.take (i + 1)).foldl lstep (List.replicate n 1) = lstep ((ps.take i).foldl lstep (List.replicate n 1)) p := by
        rw [List.take_add_one, hp', List.foldl_append]; rfl
      rw [en]
      generalize (ps.take i).foldl lstep (List.replicate n 1) = e at hl3 el ⊢
      have nl : H l = none := s1.free n2
      refine ⟨t, _, rfl, SqT.of (s3 _ _ hta), rfl, ?_⟩
      refine ⟨_, _, rfl, _, _, rfl, _, _, rfl, rfl, ?_⟩
      have j1 : (p.1 - 1).toNat < e.length := by omega
      have j2 : (p.2.1 - 1).toNat < e.length := by omega
      have k1 : p.1 - 1 = ((p.1 - 1).toNat : Int) := by omega
      have kq : p.2.1 - 1 = ((p.2.1 - 1).toNat : Int) := by omega
      have g1 : (e.map V.int)[(p.1 - 1).toNat]? = some (.int (e.getD (p.1 - 1).toNat 0)) := by
        exact get_int j1
      refine ⟨_, rfl, _, rfl, _, _, rfl, rfl, ?_⟩
      refine ⟨l, _, (p.1 - 1).toNat, _, _, rfl, rfl, k1, SqL.of hl3, g1, ?_⟩
      refine ⟨_, rfl, _, _, rfl, rfl, l, _, _, (p.1 - 1).toNat, rfl, rfl, hl3, by rw [k1, List.length_map]; exact ixN_nat j1, ?_⟩
      rw [← map_set]
      have j2' : (p.2.1 - 1).toNat < (e.set (p.1 - 1).toNat (e.getD (p.1 - 1).toNat 0 - p.2.2)).length := by rw [List.length_set]; exact j2
      have g2 : ((e.set (p.1 - 1).toNat (e.getD (p.1 - 1).toNat 0 - p.2.2)).map V.int)[(p.2.1 - 1).toNat]? = some (.int ((e.set (p.1 - 1).toNat (e.getD (p.1 - 1).toNat 0 - p.2.2)).getD (p.2.1 - 1).toNat 0)) := by
        exact get_int j2'
      refine ⟨_, rfl, _, rfl, _, _, rfl, rfl, ?_⟩
      refine ⟨l, _, (p.2.1 - 1).toNat, _, _, rfl, rfl, kq, SqL.of upd_same, g2, ?_⟩
      refine ⟨_, rfl, _, _, rfl, rfl, l, _, _, (p.2.1 - 1).toNat, rfl, rfl, upd_same, by rw [kq, List.length_map]; exact ixN_nat j2', ?_⟩
      rw [← map_set, upd_upd]
      exact ⟨⟨_, _, _, rfl⟩, s3.put nl, upd_same⟩
    · rintro σ H3 ⟨⟨v3, v4, v5, rfl⟩, s3, hl3⟩
      rw [hlen, List.take_length] at hl3
      exact ⟨_, rfl, k2 l H3 s3 (s1.free n2) hl3⟩
theorem ok_lost : FnOk P w K mg base CX0 1 T.f_lost T.d_lost ["lift"] (spLost K) := by
  refine T.F_lost.ok sc_lost (fun vs H Q E h => ?_) (fun cdv A outer s H vs Q E hr h => ?_)
  · obtain ⟨_, _, rfl, _⟩ := h
    rfl
  · obtain ⟨v, p, rfl, hv, ⟨p1, p2, p3, p4⟩, kk⟩ := h
    refine ⟨_, (pss_one (ps_ret (pe_op op_sub (pe_op op_mul (pe_op op_sub (pe_ix ix_tupN (pv 0) pe_int (fun _ _ => rfl)) (pe_ix ix_tupN (pv 0) pe_int (fun _ _ => rfl))) (pe_ix ix_tupN (pv 0) pe_int (fun _ _ => rfl))) pe_int))), ?_⟩
    refine ⟨_, rfl, _, 1, _, hv, rfl, rfl, fun u hu => ?_⟩
    rw [of_i hu]
    refine ⟨_, rfl, _, 0, _, hv, rfl, rfl, fun u hu => ?_⟩
    rw [of_i hu]
    refine ⟨_, _, rfl, rfl, _, rfl, _, 2, _, hv, rfl, rfl, fun u hu => ?_⟩
    rw [of_i hu]
    exact ⟨_, _, rfl, rfl, .inr ⟨by omega, by omega⟩, _, _, rfl, rfl, kk⟩
theorem ok_lifts_from : FnOk P w K mg base CX0 2 T.f_lifts_from T.d_lifts_from ["d", "floor", "weight", "spare"] (spLfr K) := by
  refine T.F_lifts_from.ok sc_lifts_from (fun vs H Q E h => ?_) (fun cdv A outer s H vs Q E hr h => ?_)
  · obtain ⟨_, _, _, _, rfl, _⟩ := h
    rfl
  · obtain ⟨d, f, n, sp, rfl, fd, d5, n20, kk⟩ := h
    refine ⟨_, (pss_cons (ps_set (i := 4) sc_lifts_from.nd rfl (by first | exact Or.inl rfl | exact Or.inr rfl) (pe_lstN pa_nil))
      (pss_cons (ps_for PassesOwn.never rfl (pi_range2 (by rfl) T.n_range (pa_cons (pe_op op_add (pv 1) pe_int) (pa_cons (pe_op op_add (pv 0) pe_int) pa_nil))) (pg_name (i := 5) sc_lifts_from.nd rfl (by first | exact Or.inl rfl | exact Or.inr rfl)) (pss_one (ps_for PassesOwn.never rfl (pi_range2 (by rfl) T.n_range (pa_cons pe_int (pa_cons (pe_op op_add (pv 2) pe_int) pa_nil))) (pg_name (i := 6) sc_lifts_from.nd rfl (by first | exact Or.inl rfl | exact Or.inr rfl)) (pss_one (ps_if (pt_cmpR op_le (pe_call (ok_lost T) (hr.mono (by decide)) (by rfl) T.m_lost T.F_lost.kp T.B_lost .nil pass0 (pa_cons (pe_tupN (pa_cons (pv 1) (pa_cons (pv 5) (pa_cons (pv 6) pa_nil)))) pa_nil)) (pv 3) (nomark _)) (pss_one (ps_expr (pe_bm PySem.F.plainAttrs_list PySem.F.slot_list_append PySem.F.type_list_append mt_append (pv 4) (pa_cons (pe_tupN (pa_cons (pv 1) (pa_cons (pv 5) (pa_cons (pv 6) pa_nil)))) pa_nil)))) pss_nil)))))
      (pss_one (ps_ret (pv 4))))), ?_⟩
    refine ⟨Nat.zero_le _, fun fo H1 n1 s1 h1 => ?_⟩
    refine ⟨_, rfl, _, _, rfl, rfl, _, rfl, _, _, rfl, rfl, _, _, rfl, ⟨by omega, by omega, by omega, by omega⟩, ?_⟩
    rw [show ((d : Int) + 1 - ((f : Int) + 1)).toNat = d - f by omega]
    refine for_range (lo := (f : Int) + 1) (n := d - f) (fun i σ H2 => (∃ v5 v6, σ = [some (.int d), some (.int f), some (.int n), some (.int sp), some (.ref fo), v5, v6]) ∧ Same H H2 ∧ ∃ vs, H2 fo = some (.lst vs) ∧ Iss H2 ((lfrF f i n sp).map lf) vs) ⟨⟨none, none, rfl⟩, s1, [], h1, iss_nil⟩ ?_ ?_
    · rintro i σ H2 hi ⟨⟨v5, v6, rfl⟩, s2, vs2, hfo2, his2⟩
      refine ⟨_, rfl, _, _, rfl, rfl, _, _, rfl, ⟨by decide, by decide, by omega, by omega⟩, ?_⟩
      rw [show ((n : Int) + 1 - 1).toNat = n by omega]
      refine for_range (lo := 1) (n := n) (fun j σ H3 => (∃ v6, σ = [some (.int d), some (.int f), some (.int n), some (.int sp), some (.ref fo), some (.int ((f : Int) + 1 + (i : Int))), v6]) ∧ Same H H3 ∧ ∃ vs, H3 fo = some (.lst vs) ∧ Iss H3 ((lfrF f i n sp ++ lfrW f ((f : Int) + 1 + (i : Int)) j sp).map lf) vs) ⟨⟨v6, rfl⟩, s2, vs2, hfo2, by simpa [lfrW] using his2⟩ ?_ ?_
      · rintro j σ H3 hj ⟨⟨v6, rfl⟩, s3, vs3, hfo3, his3⟩
        have vl : vs3.length ≤ 200 := by
          rw [his3.length, List.length_map, List.length_append]
          have a := lfrF_len f n sp i
          have b := lfrW_len f ((f : Int) + 1 + (i : Int)) j sp
          have : i * n ≤ 5 * 20 := Nat.mul_le_mul (by omega) n20
          omega
        refine ⟨_, rfl, _, rfl, _, rfl, (by show 3 ≤ sizeLine; decide), fun t H4 nt s4 ht => ⟨.ref t, ((f : Int), (f : Int) + 1 + (i : Int), 1 + (j : Int)), rfl, is_lf ht, ⟨?_, ?_, ?_, ?_⟩, _, rfl, _, _, rfl, rfl, _, rfl, iteD (fun c => ?_) (fun c => ?_)⟩⟩
        · show 0 ≤ (f : Int) + 1 + (i : Int) - (f : Int); omega
        · show (f : Int) + 1 + (i : Int) - (f : Int) ≤ 10; omega
        · show 1 ≤ 1 + (j : Int); omega
        · show 1 + (j : Int) ≤ 20; omega
        · refine ⟨_, rfl, .inl ⟨rfl, _, SqL.of (s4 _ _ hfo3)⟩, _, rfl, _, rfl, _, rfl, (by show 3 ≤ sizeLine; decide), fun t2 H5 nt2 s5 ht2 => ⟨fo, vs3, _, rfl, rfl, s5 _ _ (s4 _ _ hfo3), small1000 (by omega), ⟨_, rfl⟩, (s3.trans (s4.trans s5)).put n1, _, upd_same, ?_⟩⟩
          rw [lfrW_succ, if_pos c, ← List.append_assoc]
          refine iss_lf (TupS.upd (s5 _ _ (s4 _ _ hfo3))) ?_
          rw [List.map_append]
          exact (his3.mono (s4.trans s5)).append (iss_cons (is_lf ht2) iss_nil)
        · refine ⟨⟨_, rfl⟩, s3.trans s4, vs3, s4 _ _ hfo3, ?_⟩
          rw [lfrW_succ, if_neg c, List.append_nil]
          exact his3.mono s4
      · rintro σ H3 ⟨⟨v6, rfl⟩, s3, vs3, hfo3, his3⟩
        exact ⟨⟨_, _, rfl⟩, s3, vs3, hfo3, by rw [lfrF_succ]; exact his3⟩
    · rintro σ H2 ⟨⟨v5, v6, rfl⟩, s2, vs2, hfo2, his2⟩
      exact ⟨_, rfl, kk fo H2 s2 n1 (is_l hfo2 his2)⟩
theorem ok_leaving : ∀ n : Nat, FnOk P w K mg base CX0 (n + 1) T.f_leaving T.d_leaving ["lifts", "weight", "spare"] (spLeav n K)
  | 0 => ⟨fun vs H Q E h => by obtain ⟨_, _, _, _, _, _, _, h, h', _⟩ := h; omega, fun A outer s H args us vs Q E _ _ _ _ h => by obtain ⟨_, _, _, _, _, _, _, h, h', _⟩ := h; omega⟩
  | n + 1 => by
    have ih := ok_leaving n
    refine T.F_leaving.ok sc_leaving (fun vs H Q E h => ?_) (fun cdv A outer s H vs Q E hr h => ?_)
    · obtain ⟨_, _, _, _, rfl, _⟩ := h
      rfl
    · obtain ⟨v, ls, wt, sp, rfl, hv, hok, w0, w1, hL, hl, hn, kk⟩ := h
      refine ⟨_, (pss_cons (ps_set (i := 3) sc_leaving.nd rfl (by first | exact Or.inl rfl | exact Or.inr rfl) (pe_lstN (pa_cons (pe_lstN pa_nil) pa_nil)))
      (pss_cons (ps_for PassesOwn.never rfl (pi_enum (by rfl) T.n_enumerate (pv 0)) (pg_tup rfl (pgs_cons (pg_name (i := 4) sc_leaving.nd rfl (by first | exact Or.inl rfl | exact Or.inr rfl)) (pgs_cons (pg_name (i := 5) sc_leaving.nd rfl (by first | exact Or.inl rfl | exact Or.inr rfl)) pgs_nil))) (pss_one (ps_if (pw_and (pt_cmpR op_le (pe_ix ix_tupN (pv 5) pe_int (fun _ _ => rfl)) (pv 1) (nomark _)) (pw_and1 (pt_cmpR op_le (pe_call (ok_lost T) (hr.mono (by omega)) (by rfl) T.m_lost T.F_lost.kp T.B_lost .nil pass0 (pa_cons (pv 5) pa_nil)) (pv 2) (nomark _)))).pt (pss_one (ps_for PassesOwn.never rfl (pi_list (pe_call ih hr (by rfl) T.m_leaving T.F_leaving.kp T.B_leaving .nil pass0 (pa_cons (pe_slice sl_list (pv 0) (po_some (pv 4)) po_none) (pa_cons (pe_op op_sub (pv 1) (pe_ix ix_tupN (pv 5) pe_int (fun _ _ => rfl))) (pa_cons (pe_op op_sub (pv 2) (pe_call (ok_lost T) (hr.mono (by omega)) (by rfl) T.m_lost T.F_lost.kp T.B_lost .nil pass0 (pa_cons (pv 5) pa_nil))) pa_nil))))) (pg_name (i := 6) sc_leaving.nd rfl (by first | exact Or.inl rfl | exact Or.inr rfl)) (pss_one (ps_expr (pe_bm PySem.F.plainAttrs_list PySem.F.slot_list_append PySem.F.type_list_append mt_append (pv 3) (pa_cons (pe_op op_catN (pe_lstN (pa_cons (pv 5) pa_nil)) (pv 6)) pa_nil)))))) pss_nil)))
      (pss_one (ps_ret (pv 3))))), ?_⟩
      obtain ⟨da, dvs, rfl, hda, hdi⟩ := of_l hv
      have dlen : dvs.length = ls.length := by rw [hdi.length, List.length_map]
      refine ⟨Nat.zero_le _, fun e0 H1 ne s1 he => ⟨(by show 1 ≤ sizeLine; decide), fun fo H2 nf s2 hfo => ?_⟩⟩
      have nfH : H fo = none := s1.free nf
      have e0fo : e0 ≠ fo := by rintro rfl; rw [he] at nf; cases nf
      have acc0 : Acc H H2 fo (([[]] : List (List Lf)).map lfs) := ⟨[.ref e0], hfo, iss_cons (is_l (vs := []) (by rw [hid_at e0fo, nw_new ne]; exact s2 _ _ he) iss_nil) iss_nil⟩
      have tot : ∀ i : Nat, i < ls.length → 1 + ((List.range i).flatMap (leavG n ls wt sp)).length + (leavG n ls wt sp i).length ≤ 1000 := fun i hi => by
        have := pre_len (leavG n ls wt sp) hi
        rw [leav_succ, List.length_append, List.length_singleton] at hL
        omega
      refine ⟨_, rfl, da, rfl, ⟨_, SqL.of (s2 _ _ (s1 _ _ hda))⟩, for_enum (xs := dvs) (fun i σ H3 => (∃ v4 v5 v6, σ = [some (.ref da), some (.int wt), some (.int sp), some (.ref fo), v4, v5, v6]) ∧ Same H H3 ∧ Acc H H3 fo (([[]] ++ (List.range i).flatMap (leavG n ls wt sp)).map lfs)) ⟨⟨none, none, none, rfl⟩, s1.trans s2, by simpa using acc0⟩ (fun i σ H3 _ h => SqL.of (h.2.1 _ _ hda)) ?_ ?_⟩
      · rintro i y σ H3 pa hi ⟨⟨v4, v5, v6, rfl⟩, s3, hacc⟩ np
        obtain ⟨dd, hdd, hy⟩ := hdi.of_get hi
        rw [List.getElem?_map] at hdd
        obtain ⟨p, hp', rfl⟩ := Option.map_eq_some_iff.mp hdd
        have hil : i < ls.length := (List.getElem?_eq_some_iff.mp hp').1
        obtain ⟨p1, p2, p3, p4⟩ := id (hok p (List.mem_of_getElem? hp'))
        have tt := tot i hil
        have s34 : Same H3 (upd H3 pa (.tup [.int i, y])) := Same.new np
        have hacc4 := hacc.mono s34
        have stay : leavG n ls wt sp i = [] → Acc H (upd H3 pa (.tup [.int i, y])) fo (([[]] ++ (List.range (i + 1)).flatMap (leavG n ls wt sp)).map lfs) := fun e => by
          rw [flat_succ, e, List.append_nil]
          exact hacc4
        have hlf : Is (upd H3 pa (.tup [.int i, y])) (lf p) y := (hy.mono s3).mono s34
        refine ⟨pa, _, rfl, SqT.of upd_same, rfl, _, _, rfl, _, _, rfl, rfl, ?_⟩
        generalize upd H3 pa (.tup [.int i, y]) = H4 at s34 hacc4 stay hlf ⊢
        have s4 : Same H H4 := s3.trans s34
        refine ⟨_, rfl, _, 2, _, hlf, rfl, rfl, fun u hu => ?_⟩
        rw [of_i hu]
        refine ⟨_, rfl, _, _, rfl, rfl, _, rfl, iteD (fun c1 => ?_) (fun c1 => ?_)⟩
        · refine ⟨_, rfl, y, p, rfl, hlf, ⟨p1, p2, p3, p4⟩, _, rfl, _, _, rfl, rfl, _, rfl, iteD (fun c2 => ?_) (fun c2 => ?_)⟩
          · have eG : leavG n ls wt sp i = (leavF n (ls.drop i) (wt - p.2.2) (sp - lostF p)).map (p :: ·) := by
              unfold leavG
              rw [hp']
              exact if_pos ⟨c1, c2⟩
            rw [eG, List.length_map] at tt
            refine ⟨_, rfl, _, rfl, i, rfl, da, _, rfl, SqL.of (s4 _ _ hda), ?_⟩
            rw [cut_dropI (by omega)]
            intro l2 n2
            have s45 : Same H4 (upd H4 l2 (.lst (dvs.drop i))) := Same.new n2
            have hl2 : (upd H4 l2 (.lst (dvs.drop i))) l2 = some (.lst (dvs.drop i)) := upd_same
            generalize upd H4 l2 (.lst (dvs.drop i)) = H5 at s45 hl2 ⊢
            have s5 := s4.trans s45
            have hdr : Is H5 (lfs (ls.drop i)) (.ref l2) := is_l hl2 (by rw [List.map_drop]; exact (hdi.drop i).mono s5)
            refine ⟨_, rfl, _, rfl, _, 2, _, hlf.mono s45, rfl, rfl, fun u hu => ?_⟩
            rw [of_i hu]
            refine ⟨_, _, rfl, rfl, _, rfl, _, rfl, y, p, rfl, hlf.mono s45, ⟨p1, p2, p3, p4⟩, _, _, rfl, rfl, ?_⟩
            refine ⟨.ref l2, ls.drop i, wt - p.2.2, sp - lostF p, rfl, hdr, fun q hq => hok q (List.mem_of_mem_drop hq), by omega, by omega, by omega, by rw [List.length_drop]; omega, by omega, fun rl H6 s6 nrl hrl => ?_⟩
            obtain ⟨vs5, hfo5, hi5⟩ := hacc4.mono s45
            have hfo6 : H6 fo = some (.lst vs5) := s6 _ _ hfo5
            obtain ⟨_, rvs, e, hrl', hri⟩ := of_l hrl
            cases e
            have hrl6 : H6 rl = some (.lst rvs) := nw_same _ _ hrl'
            have rlfo : rl ≠ fo := by rintro rfl; rw [hfo5] at nrl; cases nrl
            have rlen : rvs.length = (leavF n (ls.drop i) (wt - p.2.2) (sp - lostF p)).length := by rw [hri.length, List.length_map]
            have hriH : Iss (hid H6 fo) ((leavF n (ls.drop i) (wt - p.2.2) (sp - lostF p)).map lfs) rvs := (hri.mono (nw_hid (Same.refl H5) hfo5)).mono (hid_mono nw_same)
            have s56 := s5.trans s6
            refine ⟨rl, rfl, ⟨_, SqL.of hrl6⟩, for_list (xs := rvs) (fun j σ H7 => (∃ v6, σ = [some (.ref da), some (.int wt), some (.int sp), some (.ref fo), some (.int i), some y, v6]) ∧ Same H H7 ∧ But fo H6 H7 ∧ Acc H H7 fo (([[]] ++ (List.range i).flatMap (leavG n ls wt sp) ++ ((leavF n (ls.drop i) (wt - p.2.2) (sp - lostF p)).take j).map (p :: ·)).map lfs)) ⟨⟨_, rfl⟩, s56, fun _ _ e _ => e, by simpa using (hacc4.mono s45).mono s6⟩ (fun j σ H7 _ h => SqL.of (h.2.2.1 _ _ hrl6 rlfo)) ?_ ?_⟩
            · rintro j x σ H7 hj ⟨⟨v6, rfl⟩, s7, but7, vs7, hfo7, hi7⟩
              obtain ⟨dd, hdd, hx⟩ := hriH.of_get hj
              rw [List.getElem?_map] at hdd
              obtain ⟨r, hr', rfl⟩ := Option.map_eq_some_iff.mp hdd
              have hjl : j < (leavF n (ls.drop i) (wt - p.2.2) (sp - lostF p)).length := (List.getElem?_eq_some_iff.mp hr').1
              have hx7 : Is H7 (lfs r) x := hx.mono (hid_but but7)
              have ritem := (leav_item (fun q hq => (hok q (List.mem_of_mem_drop hq)).2.2.1) (by omega) (List.mem_of_getElem? hr')).1
              have vl : vs7.length ≤ 999 := by
                rw [hi7.length, List.length_map, List.length_append, List.length_append, List.length_map, List.length_take, List.length_singleton]
                omega
              have hy7 : Is H7 (lf p) y := hy.mono s7
              refine ⟨_, rfl, .inl ⟨rfl, _, SqL.of hfo7⟩, _, rfl, (by show 1 ≤ sizeLine; decide), fun q1 H8 n8 s8 h8 => ⟨_, rfl, [lf p], r.map lf, is_l h8 (iss_cons (hy7.mono s8) iss_nil), hx7.mono s8, Nat.le_of_lt (small1000 (by rw [List.length_map]; show 1 + r.length ≤ 1000; omega)), fun q2 H9 n9 s9 h9 => ?_⟩⟩
              have s79 := s8.trans s9
              refine ⟨fo, vs7, _, rfl, rfl, s79 _ _ hfo7, small1000 (by omega), ⟨_, rfl⟩, (s7.trans s79).put nfH, but7.trans ((But.of_same s79).trans But.upd), ?_⟩
              rw [List.take_add_one, hr']
              have := Acc.add s7 s79 hfo7 hi7 (nw_lfs (ps := p :: r) s79 (s8.free n9) h9)
              simpa using this
            · rintro σ H7 ⟨⟨v6, rfl⟩, s7, _, hacc7⟩
              refine ⟨⟨_, _, _, rfl⟩, s7, ?_⟩
              rw [rlen, List.take_length, ← eG, List.append_assoc, ← flat_succ] at hacc7
              exact hacc7
          · refine ⟨⟨_, _, _, rfl⟩, s4, stay ?_⟩
            unfold leavG
            rw [hp']
            exact if_neg fun z => c2 z.2
        · refine iteF ⟨⟨_, _, _, rfl⟩, s4, stay ?_⟩
          unfold leavG
          rw [hp']
          exact if_neg fun z => c1 z.1
      · rintro σ H3 ⟨⟨v4, v5, v6, rfl⟩, s3, hacc⟩
        rw [dlen, ← leav_succ] at hacc
        exact ⟨_, rfl, kk fo H3 s3 nfH (hacc.is nfH)⟩
theorem ok_with_floor : FnOk P w K mg base CX0 10 T.f_with_floor T.d_with_floor ["d", "floor", "drawing", "spare"] (spWith K) := by
  refine T.F_with_floor.ok sc_with_floor (fun vs H Q E h => ?_) (fun cdv A outer s H vs Q E hr h => ?_)
  · obtain ⟨_, _, _, _, rfl, _⟩ := h
    rfl
  · obtain ⟨d, f, v, x, rfl, fd, d5, hv, hst, kk⟩ := h
    refine ⟨_, (pss_cons (ps_set (i := 4) sc_with_floor.nd rfl (by first | exact Or.inl rfl | exact Or.inr rfl) (pe_ix ix_list (pe_call (ok_ends_at T) (hr.mono (by decide)) (by rfl) T.m_ends_at T.F_ends_at.kp T.B_ends_at .nil pass0 (pa_cons (pv 0) (pa_cons (pv 2) pa_nil))) (pe_op op_sub (pv 1) pe_int) (fun _ _ => rfl)))
      (pss_cons (ps_set (i := 5) sc_with_floor.nd rfl (by first | exact Or.inl rfl | exact Or.inr rfl) (pe_lstN pa_nil))
      (pss_cons (ps_for PassesOwn.never rfl (pi_list (pe_call (ok_leaving T 8) (hr.mono (by decide)) (by rfl) T.m_leaving T.F_leaving.kp T.B_leaving .nil pass0 (pa_cons (pe_call (ok_lifts_from T) (hr.mono (by decide)) (by rfl) T.m_lifts_from T.F_lifts_from.kp T.B_lifts_from .nil pass0 (pa_cons (pv 0) (pa_cons (pv 1) (pa_cons (pv 4) (pa_cons (pv 3) pa_nil))))) (pa_cons (pv 4) (pa_cons (pv 3) pa_nil))))) (pg_name (i := 6) sc_with_floor.nd rfl (by first | exact Or.inl rfl | exact Or.inr rfl)) (pss_cons (ps_set (i := 7) sc_with_floor.nd rfl (by first | exact Or.inl rfl | exact Or.inr rfl) (pe_op op_sub (pv 4) (pe_callB (call_sum rfl) (by rfl) T.n_sum boot_sum (pa_cons (pe_compB (XN := ["d", "floor", "drawing", "spare", "there", "found", "lifts", "ends", "left"]) (sc := defScope s_with_floor) (N := ["lift"]) (own := 1) (js := []) rfl (by decide +kernel) rfl rfl (pi_list (pv 6)) (fun _ _ _ _ => (pg_name (i := 0) (show List.Nodup (["lift"] : List Str) by decide +kernel) rfl (Or.inl rfl) (.inr rfl))) (ownG_name (by decide)) (fun _ _ _ _ => pifs_nil) (fun _ _ _ _ => (pe_ix ix_tupN (pv 0) pe_int (fun _ _ => rfl)))) pa_nil))))
      (pss_cons (ps_set (i := 8) sc_with_floor.nd rfl (by first | exact Or.inl rfl | exact Or.inr rfl) (pe_op op_sub (pe_op op_sub (pv 3) (pe_callB (call_sum rfl) (by rfl) T.n_sum boot_sum (pa_cons (pe_compB (XN := ["d", "floor", "drawing", "spare", "there", "found", "lifts", "ends", "left"]) (sc := defScope s_with_floor) (N := ["lift"]) (own := 1) (js := []) rfl (by decide +kernel) rfl rfl (pi_list (pv 6)) (fun _ _ _ _ => (pg_name (i := 0) (show List.Nodup (["lift"] : List Str) by decide +kernel) rfl (Or.inl rfl) (.inr rfl))) (ownG_name (by decide)) (fun _ _ _ _ => pifs_nil) (fun _ _ _ _ => (pe_call (ok_lost T) (hr.mono (by decide)) (by rfl) T.m_lost T.F_lost.kp T.B_lost .nil pass0 (pa_cons (pv 0) pa_nil)))) pa_nil))) (pe_op op_mul (pv 7) (pe_op op_sub (pv 0) (pv 1)))))
      (pss_one (ps_if (pt_cmpR op_ge (pv 8) pe_int (nomark _)) (pss_one (ps_expr (pe_bm PySem.F.plainAttrs_list PySem.F.slot_list_append PySem.F.type_list_append mt_append (pv 5) (pa_cons (pe_tupN (pa_cons (pe_op op_catN (pv 2) (pv 6)) (pa_cons (pv 8) pa_nil))) pa_nil)))) pss_nil)))))
      (pss_one (ps_ret (pv 5)))))), ?_⟩
    obtain ⟨b1, b2, b3, b4, b5, b6, b7⟩ := stB_iff hst
    have okl : ∀ p ∈ x.1, Okl d p := fun p hp => by
      obtain ⟨o1, o2, o3, o4, o5⟩ := oklB_iff.mp (b1 p hp)
      exact ⟨o1, by omega, by omega, o3⟩
    have elen := ends_len d x.1 okl
    refine ⟨_, rfl, _, rfl, d, v, x.1, rfl, by omega, d5, hv, okl, fun el H1 s1 nel hel => ?_⟩
    refine ⟨_, rfl, _, _, rfl, rfl, el, _, _, .int (thF d (f + 1) x.1), rfl, rfl, SqL.of hel, ix_D (j := f) (by omega) (by rw [get_int (by omega)]; rfl), ?_⟩
    unfold withF at kk
    generalize thF d (f + 1) x.1 = th at b3 b4 b7 kk ⊢
    obtain ⟨n, rfl⟩ := Int.eq_ofNat_of_zero_le b3
    refine ⟨Nat.zero_le _, fun fo H2 nf s2 hfo => ?_⟩
    have nfH : H fo = none := s1.free nf
    have s02 := s1.trans s2
    refine ⟨_, rfl, _, rfl, _, rfl, _, rfl, d, f + 1, n, x.2, rfl, by omega, d5, by omega, fun l0 H3 s3 nl0 hl0 => ?_⟩
    refine ⟨_, rfl, _, rfl, .ref l0, lfrF ((f + 1 : Nat) : Int) (d - (f + 1)) n x.2, (n : Int), x.2, rfl, hl0, fun p hp => ?_, by omega, by omega, ?_, ?_, by decide, fun rl H4 s4 nrl hrl => ?_⟩
    · obtain ⟨e1, e2, e3, e4, e5⟩ := lfrF_in hp
      exact ⟨by omega, by omega, by omega, by omega⟩
    · exact Nat.le_trans b7 (by decide)
    · have := lfrF_len ((f + 1 : Nat) : Int) n x.2 (d - (f + 1))
      have : (d - (f + 1)) * n ≤ 5 * 8 := Nat.mul_le_mul (by omega) (by omega)
      omega
    have eL : leavF 8 (lfrF ((f + 1 : Nat) : Int) (d - (f + 1)) n x.2) (n : Int) x.2 = lvsF d (f + 1) n x.2 := by unfold lvsF; rw [Int.toNat_natCast]
    have hitem : ∀ r ∈ lvsF d (f + 1) n x.2, r.length ≤ 8 ∧ 0 ≤ (r.map (·.2.2)).sum ∧ (r.map (·.2.2)).sum ≤ (n : Int) ∧ ∀ p ∈ r, Lok p := fun r hr => by
      rw [← eL] at hr
      obtain ⟨i1, i2, i3, i4⟩ := leav_item (fun q hq => (lfrF_in hq).2.2.2.1) (by omega) hr
      exact ⟨i1, i2, i3, fun p hp => by
        obtain ⟨e1, e2, e3, e4, e5⟩ := lfrF_in (i4 p hp)
        exact ⟨by omega, by omega, by omega, by omega⟩⟩
    rw [eL] at hrl
    generalize lvsF d (f + 1) n x.2 = L at hrl hitem kk b7
    have s03 := s02.trans s3
    have hfo3 : H3 fo = some (.lst []) := s3 _ _ hfo
    have hfo4 : H4 fo = some (.lst []) := s4 _ _ hfo3
    obtain ⟨_, rvs, e, hrl', hri⟩ := of_l hrl
    cases e
    have hrl4 : H4 rl = some (.lst rvs) := nw_same _ _ hrl'
    have rlfo : rl ≠ fo := by rintro rfl; rw [hfo3] at nrl; cases nrl
    have rlen : rvs.length = L.length := by rw [hri.length, List.length_map]
    have hriH : Iss (hid H4 fo) (L.map lfs) rvs := (hri.mono (nw_hid (Same.refl H3) hfo3)).mono (hid_mono nw_same)
    have s04 := s03.trans s4
    refine ⟨rl, rfl, ⟨_, SqL.of hrl4⟩, for_list (xs := rvs) (fun j σ H5 => (∃ v6 v7 v8, σ = [some (.int d), some (.int ((f + 1 : Nat) : Int)), some v, some (.int x.2), some (.int n), some (.ref fo), v6, v7, v8]) ∧ Same H H5 ∧ But fo H4 H5 ∧ Acc H H5 fo ((((L.take j).filter fun ls => decide (0 ≤ leftF d (f + 1) n x.2 ls)).map fun ls => (x.1 ++ ls, leftF d (f + 1) n x.2 ls)).map stD)) ⟨⟨none, none, none, rfl⟩, s04, fun _ _ e _ => e, Acc.start hfo4⟩ (fun j σ H5 _ h => SqL.of (h.2.2.1 _ _ hrl4 rlfo)) ?_ ?_⟩
    · rintro j y σ H5 hj ⟨⟨v6, v7, v8, rfl⟩, s5, but5, vs5, hfo5, hi5⟩
      obtain ⟨dd, hdd, hy⟩ := hriH.of_get hj
      rw [List.getElem?_map] at hdd
      obtain ⟨r, hr', rfl⟩ := Option.map_eq_some_iff.mp hdd
      have hy5 : Is H5 (lfs r) y := hy.mono (hid_but but5)
      obtain ⟨i1, i2, i3, i4⟩ := hitem r (List.mem_of_getElem? hr')
      obtain ⟨ya, ys, rfl, hya, hyi⟩ := of_l hy5
      have ylen : ys.length = r.length := by rw [hyi.length, List.length_map]
      have vl : vs5.length ≤ 200 := by
        rw [hi5.length, List.length_map, List.length_map]
        refine Nat.le_trans (List.length_filter_le _ _) ?_
        rw [List.length_take]
        omega
      refine ⟨_, rfl, _, rfl, ya, rfl, ⟨_, SqL.of hya⟩, fun acc na => ?_⟩
      refine comp_list (xs := ys) (own := 1) (js := []) (fun i H6 => Same H5 H6 ∧ H6 acc = some (.lst (((r.take i).map (·.2.2)).map V.int))) ⟨Same.new na, upd_same⟩ (fun i H6 _ h => SqL.of (h.1 _ _ hya)) ?_ ?_ mono_name mono_yes ?_
      · rintro i z H6 hz ⟨s6, hacc⟩
        obtain ⟨dd, hdd, hzi⟩ := hyi.of_get hz
        rw [List.getElem?_map] at hdd
        obtain ⟨p, hp', rfl⟩ := Option.map_eq_some_iff.mp hdd
        refine yesN ?_
        refine ⟨_, rfl, _, 2, _, hzi.mono s6, rfl, rfl, fun u hu => ?_⟩
        rw [of_i hu]
        refine ⟨acc, _, _, rfl, rfl, hacc, small1000 ?_, s6.put na, ?_⟩
        · rw [List.length_map, List.length_map, List.length_take]; omega
        · rw [upd_same, List.take_add_one, hp', List.map_append, List.map_append]; rfl
      · rintro H6 ⟨s6, hacc⟩
        rw [ylen, List.take_length] at hacc
        refine ⟨acc, _, rfl, SqL.of hacc, _, _, rfl, rfl, ?_⟩
        clear hacc
        refine ⟨_, rfl, _, rfl, ya, rfl, ⟨_, SqL.of (s6 _ _ hya)⟩, fun ac2 na2 => ?_⟩
        refine comp_list (xs := ys) (own := 1) (js := []) (fun i H7 => Same H6 H7 ∧ H7 ac2 = some (.lst (((r.take i).map lostF).map V.int))) ⟨Same.new na2, upd_same⟩ (fun i H7 _ h => SqL.of (h.1 _ _ (s6 _ _ hya))) ?_ ?_ mono_name mono_yes ?_
        · rintro i z H7 hz ⟨s7, hacc⟩
          obtain ⟨dd, hdd, hzi⟩ := hyi.of_get hz
          rw [List.getElem?_map] at hdd
          obtain ⟨p, hp', rfl⟩ := Option.map_eq_some_iff.mp hdd
          refine yesN ?_
          refine ⟨_, rfl, z, p, rfl, (hzi.mono s6).mono s7, i4 p (List.mem_of_getElem? hp'), ac2, _, _, rfl, rfl, hacc, small1000 ?_, s7.put na2, ?_⟩
          · rw [List.length_map, List.length_map, List.length_take]; omega
          · rw [upd_same, List.take_add_one, hp', List.map_append, List.map_append]; rfl
        · rintro H7 ⟨s7, hacc⟩
          rw [ylen, List.take_length] at hacc
          have s57 := s6.trans s7
          refine ⟨ac2, _, rfl, SqL.of hacc, _, _, rfl, rfl, _, rfl, _, rfl, _, rfl, _, _, rfl, rfl, _, _, rfl, rfl, .inr ⟨by omega, by omega⟩, _, _, rfl, rfl, ?_⟩
          refine ⟨_, rfl, _, _, rfl, rfl, _, rfl, iteD (fun c => ?_) (fun c => ?_)⟩
          · have hv7 : Is H7 (lfs x.1) v := (hv.mono s5).mono s57
            refine ⟨_, rfl, .inl ⟨rfl, _, SqL.of (s57 _ _ hfo5)⟩, _, rfl, _, rfl, x.1.map lf, r.map lf, hv7, hy5.mono s57, Nat.le_of_lt (small1000 (by rw [List.length_map, List.length_map]; omega)), fun q1 H8 n8 s8 h8 => ⟨_, rfl, (by show 2 ≤ sizeLine; decide), fun t H9 nt s9 ht => ?_⟩⟩
            have s59 := s57.trans (s8.trans s9)
            refine ⟨fo, vs5, _, rfl, rfl, s59 _ _ hfo5, small1000 (by omega), ⟨_, _, _, rfl⟩, (s5.trans s59).put nfH, but5.trans ((But.of_same s59).trans But.upd), ?_⟩
            rw [List.take_add_one, hr', List.filter_append]
            have ef : (Option.toList (some r)).filter (fun ls => decide (0 ≤ leftF d (f + 1) n x.2 ls)) = [r] := by
              have c' : 0 ≤ leftF d (f + 1) n x.2 r := c
              simp [c']
            rw [ef, List.map_append, List.map_append]
            rw [← List.map_append] at h8
            have isx : Is (nw H5 H9) (stD (x.1 ++ r, leftF d (f + 1) n x.2 r)) (.ref t) := is_t (by rw [nw_new ((s57.trans s8).free nt)]; exact ht) (iss_cons (nw_lfs s59 (s57.free n8) (Is.mono (s := s9) h8)) (iss_cons is_i iss_nil))
            exact Acc.add s5 s59 hfo5 hi5 isx
          · refine ⟨⟨_, _, _, rfl⟩, s5.trans s57, but5.trans (But.of_same s57), ?_⟩
            rw [List.take_add_one, hr', List.filter_append]
            have ef : (Option.toList (some r)).filter (fun ls => decide (0 ≤ leftF d (f + 1) n x.2 ls)) = [] := by
              have c' : ¬ 0 ≤ leftF d (f + 1) n x.2 r := c
              simp [c']
            rw [ef, List.append_nil]
            exact Acc.mono s57 ⟨vs5, hfo5, hi5⟩
        · rintro σ H R R' k ⟨v1, e1, v2, p, e2, h1, h2, h⟩
          exact ⟨v1, e1, v2, p, e2, h1, h2, k _ _ h⟩
      · rintro σ H R R' k ⟨v1, e1, xs, i, d, h1, e2, e3, h⟩
        exact ⟨v1, e1, xs, i, d, h1, e2, e3, fun u hu => k _ _ (h u hu)⟩
    · rintro σ H5 ⟨⟨v6, v7, v8, rfl⟩, s5, _, hacc⟩
      rw [rlen, List.take_length] at hacc
      exact ⟨_, rfl, kk fo H5 s5 nfH (hacc.is nfH)⟩
theorem ok_drawings : FnOk P w K mg base (CX1 P w) 11 T.f_drawings T.d_drawings ["d", "k"] (spDrw T.c_NoBound) := by
  refine T.F_drawings.okx sc_drawings (fun vs H Q E h => ?_) (fun cdv A outer s H vs Q E hr h hR hp => ?_)
  · obtain ⟨_, _, rfl, _⟩ := h
    rfl
  · obtain ⟨v, u, rfl, ht, hu, kk, ke⟩ := h
    refine ⟨_, (pss_cons (ps_expr (pe_call (ok_need_wide T) (hr.mono (by decide)) (by rfl) T.m_need_wide T.F_need_wide.kp T.B_need_wide .nil hp (pa_cons (pv 0) (pa_cons (pv 1) pa_nil))))
      (pss_cons (ps_set (i := 2) sc_drawings.nd rfl (by first | exact Or.inl rfl | exact Or.inr rfl) (pe_lstN (pa_cons (pe_tupN (pa_cons (pe_lstN pa_nil) (pa_cons (pv 1) pa_nil))) pa_nil)))
      (pss_cons (PS.quiet (ps_for PassesOwn.never rfl (pi_range2 (by rfl) T.n_range (pa_cons pe_int (pa_cons (pe_op op_add (pv 0) pe_int) pa_nil))) (pg_name (i := 3) sc_drawings.nd rfl (by first | exact Or.inl rfl | exact Or.inr rfl)) (pss_cons (ps_set (i := 4) sc_drawings.nd rfl (by first | exact Or.inl rfl | exact Or.inr rfl) (pe_lstN pa_nil))
      (pss_cons (ps_for PassesOwn.never rfl (pi_list (pv 2)) (pg_tup rfl (pgs_cons (pg_name (i := 5) sc_drawings.nd rfl (by first | exact Or.inl rfl | exact Or.inr rfl)) (pgs_cons (pg_name (i := 6) sc_drawings.nd rfl (by first | exact Or.inl rfl | exact Or.inr rfl)) pgs_nil))) (pss_one (ps_expr (pe_bm PySem.F.plainAttrs_list PySem.F.slot_list_extend PySem.F.type_list_extend mt_extend (pv 4) (pa_cons (pe_call (ok_with_floor T) (hr.mono (by decide)) (by rfl) T.m_with_floor T.F_with_floor.kp T.B_with_floor .nil pass0 (pa_cons (pv 0) (pa_cons (pv 3) (pa_cons (pv 5) (pa_cons (pv 6) pa_nil))))) pa_nil)))))
      (pss_one (ps_set (i := 2) sc_drawings.nd rfl (by first | exact Or.inl rfl | exact Or.inr rfl) (pv 4)))))))
      (pss_one (ps_ret (pe_callB (call_sortedP hr) (by rfl) T.n_sorted boot_sorted (pa_cons (pe_compB (XN := ["d", "k", "begun", "floor", "longer", "drawing", "spare"]) (sc := defScope s_drawings) (N := ["drawing", "spare"]) (own := 2) (js := []) rfl (by decide +kernel) rfl rfl (pi_list (pv 2)) (fun _ _ _ _ => (pg_tupK (K := K) rfl rfl (pgs_cons (pg_name (i := 0) (show List.Nodup (["drawing", "spare"] : List Str) by decide +kernel) rfl (Or.inl rfl) (.inr rfl)) (pgs_cons (pg_name (i := 1) (show List.Nodup (["drawing", "spare"] : List Str) by decide +kernel) rfl (Or.inl rfl) (.inr rfl)) pgs_nil)))) ownG_pair (fun _ _ _ _ => (pifs_one (pt_cmpR op_eq (pv 1) pe_int (nomark _)))) (fun _ _ _ _ => (pv 0))) pa_nil))))))), ?_⟩
    refine ⟨_, rfl, _, rfl, v, u, rfl, ht, hu, fun ⟨d, k, e1, e2, hW⟩ => ?_, ke⟩
    subst e1 e2
    obtain ⟨hW4, kk⟩ := kk d k rfl rfl hW
    clear ke
    obtain ⟨g1, _, g3⟩ := bits34 hW4
    obtain ⟨gA, gB⟩ := okB_iff g1
    have d15 : 1 ≤ d ∧ d ≤ 5 := by unfold Wide at hW; omega
    refine ⟨Nat.zero_le _, fun e0 H1 ne0 s1 he0 => ⟨_, rfl, (by show 2 ≤ sizeLine; decide), fun t0 H2 nt0 s2 ht0 => ⟨(by show 1 ≤ sizeLine; decide), fun bg H3 nb s3 hbg => ?_⟩⟩⟩
    have s03 := (s1.trans s2).trans s3
    have nbH : H bg = none := (s1.trans s2).free nb
    have is0 : Is (nw H H3) (.l ((begF d k 0).map stD)) (.ref bg) := is_l (by rw [nw_new nbH]; exact hbg) (iss_cons (is_t (by rw [nw_new (s1.free nt0)]; exact s3 _ _ ht0) (iss_cons (is_l (vs := []) (by rw [nw_new ne0]; exact s3 _ _ (s2 _ _ he0)) iss_nil) (iss_cons is_i iss_nil))) iss_nil)
    refine ⟨_, rfl, _, _, rfl, rfl, _, _, rfl, ⟨by decide, by decide, by omega, by omega⟩, ?_⟩
    rw [show ((d : Int) + 1 - 1).toNat = d by omega]
    refine for_range (lo := 1) (n := d) (fun f σ H4 => ∃ bg, (∃ v3 v4 v5 v6, σ = [some (.int d), some (.int k), some (.ref bg), v3, v4, v5, v6]) ∧ Same H H4 ∧ Is (nw H H4) (.l ((begF d k f).map stD)) (.ref bg)) ⟨bg, ⟨none, none, none, none, rfl⟩, s03, is0⟩ ?_ ?_
    · clear is0 s03 nbH hbg
      rintro f σ H4 hf ⟨bg, ⟨v3, v4, v5, v6, rfl⟩, s4, hbg⟩
      obtain ⟨hst, hlen⟩ := gA f hf
      refine ⟨Nat.zero_le _, fun lo H5 nlo s5 hlo => ?_⟩
      have hbg4 := hbg.mono nw_same
      obtain ⟨_, bvs, e, hb4, hbi⟩ := of_l hbg4
      cases e
      have blen : bvs.length = (begF d k f).length := by rw [hbi.length, List.length_map]
      refine ⟨_, rfl, bg, rfl, ⟨_, SqL.of (s5 _ _ hb4)⟩, for_list (xs := bvs) (fun j σ H6 => (∃ v5 v6, σ = [some (.int d), some (.int k), some (.ref bg), some (.int (1 + (f : Int))), some (.ref lo), v5, v6]) ∧ Same H4 H6 ∧ Acc H4 H6 lo ((((begF d k f).take j).flatMap fun x => withF d (f + 1) x.1 x.2).map stD)) ⟨⟨_, _, rfl⟩, s5, Acc.start hlo⟩ (fun j σ H6 _ h => SqL.of (h.2.1 _ _ hb4)) ?_ ?_⟩
      · rintro j y σ H6 hj ⟨⟨v5, v6, rfl⟩, s6, vs6, hlo6, hi6⟩
        obtain ⟨dd, hdd, hy⟩ := hbi.of_get hj
        rw [List.getElem?_map] at hdd
        obtain ⟨x, hx', rfl⟩ := Option.map_eq_some_iff.mp hdd
        obtain ⟨t, u, rfl, ht, hu⟩ := of_st (hy.mono s6)
        have e1 : (1 + (f : Int)) = ((f + 1 : Nat) : Int) := by omega
        have tk : (((begF d k f).take (j + 1)).flatMap fun x => withF d (f + 1) x.1 x.2) = (((begF d k f).take j).flatMap fun x => withF d (f + 1) x.1 x.2) ++ withF d (f + 1) x.1 x.2 := by
          rw [List.take_add_one, hx', List.flatMap_append]
          simp
        have vl : vs6.length + (withF d (f + 1) x.1 x.2).length ≤ 900 := by
          rw [hi6.length, List.length_map]
          have hjl : j < (begF d k f).length := (List.getElem?_eq_some_iff.mp hx').1
          have : (((begF d k f).take (j + 1)).flatMap fun x => withF d (f + 1) x.1 x.2).length ≤ (begF d k (f + 1)).length := by
            show _ ≤ ((begF d k f).flatMap fun x => withF d (f + 1) x.1 x.2).length
            conv => rhs; rw [← List.take_append_drop (j + 1) (begF d k f)]
            rw [List.flatMap_append, List.length_append]
            omega
          rw [tk, List.length_append] at this
          omega
        refine ⟨t, _, rfl, SqT.of ht, rfl, _, _, rfl, _, _, rfl, rfl, ?_⟩
        refine ⟨_, rfl, .inl ⟨rfl, _, SqL.of hlo6⟩, _, rfl, _, rfl, _, rfl, _, rfl, d, f, u, x, by rw [e1]; rfl, hf, d15.2, hu, hst x (List.mem_of_getElem? hx'), fun wl H7 s7 nwl hwl => ?_⟩
        obtain ⟨_, us, e, hwl', hwi⟩ := of_l hwl
        cases e
        have ul : us.length = (withF d (f + 1) x.1 x.2).length := by rw [hwi.length, List.length_map]
        refine ⟨lo, wl, vs6, us, rfl, rfl, s7 _ _ hlo6, nw_same _ _ hwl', Nat.le_of_lt (small1000 (by omega)), ⟨_, _, rfl⟩, (s6.trans s7).put nlo, ?_⟩
        rw [tk, List.map_append]
        exact Acc.adds s6 s7 hlo6 hi6 hwi
      · rintro σ H6 ⟨⟨v5, v6, rfl⟩, s6, hacc⟩
        rw [blen, List.take_length] at hacc
        exact ⟨_, rfl, lo, ⟨_, _, _, _, rfl⟩, s4.trans s6, (hacc.is nlo).mono (nw_later s4)⟩
    · clear is0 s03 nbH hbg
      rintro σ H4 ⟨bg, ⟨v3, v4, v5, v6, rfl⟩, s4, hbg⟩
      obtain ⟨_, bvs, e, hb4, hbi⟩ := of_l hbg
      cases e
      have hb4' := nw_same _ _ hb4
      have blen : bvs.length = (begF d k d).length := by rw [hbi.length, List.length_map]
      refine ⟨_, rfl, bg, rfl, ⟨_, SqL.of hb4'⟩, fun acc na => ?_⟩
      refine comp_list (xs := bvs) (own := 2) (js := []) (fun j H5 => Same H4 H5 ∧ ∃ vs, H5 acc = some (.lst vs) ∧ Iss (nw H H4) (((((begF d k d).take j).filter fun x => decide (x.2 = 0)).map (·.1)).map lfs) vs) ⟨Same.new na, [], upd_same, iss_nil⟩ (fun j H5 _ h => SqL.of (h.1 _ _ hb4')) ?_ ?_ mono_pair ?_ ?_
      · rintro j y H5 hj ⟨s5, vs, hacc, hi⟩
        obtain ⟨dd, hdd, hy⟩ := hbi.of_get hj
        rw [List.getElem?_map] at hdd
        obtain ⟨x, hx', rfl⟩ := Option.map_eq_some_iff.mp hdd
        obtain ⟨t, u, rfl, ht, hu⟩ := of_st hy
        have vl : vs.length ≤ 900 := by
          rw [hi.length, List.length_map, List.length_map]
          refine Nat.le_trans (List.length_filter_le _ _) ?_
          rw [List.length_take]
          obtain ⟨d', rfl⟩ : ∃ d', d = d' + 1 := ⟨d - 1, by omega⟩
          have := (gA d' (by omega)).2
          omega
        refine ⟨t, _, rfl, SqT.of (s5 _ _ (nw_same _ _ ht)), rfl, _, _, rfl, _, _, rfl, rfl, ?_⟩
        refine ⟨_, rfl, rfl, _, rfl, iteE (fun c => ?_) (fun c => ?_)⟩
        · refine ⟨_, rfl, acc, vs, _, rfl, rfl, hacc, small1000 (by omega), s5.put na, _, upd_same, ?_⟩
          rw [List.take_add_one, hx', List.filter_append]
          have ef : (Option.toList (some x)).filter (fun x => decide (x.2 = 0)) = [x] := by simp [c]
          rw [ef, List.map_append, List.map_append]
          exact hi.append (iss_cons hu iss_nil)
        · refine ⟨s5, vs, hacc, ?_⟩
          rw [List.take_add_one, hx', List.filter_append]
          have ef : (Option.toList (some x)).filter (fun x => decide (x.2 = 0)) = [] := by simp [c]
          rw [ef, List.append_nil]
          exact hi
      · rintro H5 ⟨s5, vs, hacc, hi⟩
        rw [blen, List.take_length] at hi
        have hi : Iss (nw H H4) ((rawD d k).map lfs) vs := hi
        have s05 := s4.trans s5
        have hv5 : Iss H5 ((rawD d k).map lfs) vs := (hi.mono nw_same).mono s5
        have vlen : vs.length = (rawD d k).length := by rw [hi.length, List.length_map]
        refine ⟨acc, vs, rfl, SqL.of hacc, by omega, fun r hr' => ?_, fun x hx y hy => ?_, fun p q pp nq => ?_⟩
        · obtain ⟨i, hi, rfl⟩ := List.mem_iff_getElem.mp hr'
          obtain ⟨dd, hdd, hy⟩ := hv5.of_get (List.getElem?_eq_getElem hi)
          rw [List.getElem?_map] at hdd
          obtain ⟨w, _, rfl⟩ := Option.map_eq_some_iff.mp hdd
          obtain ⟨a, ys, e1, e2, _⟩ := of_l hy
          exact ⟨a, ys, e1, SqL.of e2⟩
        · obtain ⟨i, hi, rfl⟩ := List.mem_iff_getElem.mp hx
          obtain ⟨j, hj, rfl⟩ := List.mem_iff_getElem.mp hy
          obtain ⟨dd, hdd, hx'⟩ := hv5.of_get (List.getElem?_eq_getElem hi)
          rw [List.getElem?_map] at hdd
          obtain ⟨w1, _, rfl⟩ := Option.map_eq_some_iff.mp hdd
          obtain ⟨ee, hee, hy'⟩ := hv5.of_get (List.getElem?_eq_getElem hj)
          rw [List.getElem?_map] at hee
          obtain ⟨w2, _, rfl⟩ := Option.map_eq_some_iff.mp hee
          exact ⟨_, ask_lfs hx' hy'⟩
        · have hpl : ∀ i ∈ p, i < (rawD d k).length := fun i hi => by
            have := List.mem_range.mp (pp.mem_iff.mp hi)
            omega
          refine kk (p.map fun i => (rawD d k).getD i []) q _ ?_ (s05.put (s05.free nq)) (s05.free nq) ?_
          · have := pp.map fun i => (rawD d k).getD i []
            have er : (List.range vs.length).map (fun i => (rawD d k).getD i []) = rawD d k := by
              rw [vlen]
              refine List.ext_getElem (by simp) fun i h1 h2 => ?_
              simp [List.getD, h2]
            rw [er] at this
            exact this
          · exact is_l (by rw [nw_new (s05.free nq)]; exact upd_same) ((iss_pick hi p hpl).mono (nw_mono (s5.trans (Same.new nq))))
      · rintro σ H R R' k' ⟨v1, e1, e2, b, e3, h⟩
        exact ⟨v1, e1, e2, b, e3, k' _ _ h⟩
      · rintro σ H R R' k' ⟨v1, e1, h⟩
        exact ⟨v1, e1, k' _ _ h⟩
theorem ok_sound : FnOk P w K mg base CX0 5 T.f_sound T.d_sound ["d", "drawing"] (spSou K) := by
  refine T.F_sound.ok sc_sound (fun vs H Q E h => ?_) (fun cdv A outer s H vs Q E hr h => ?_)
  · obtain ⟨_, _, _, rfl, _⟩ := h
    rfl
  · obtain ⟨n, dv, ps, rfl, n1, n5, hd, hs, kk⟩ := h
    refine ⟨_, (pss_one (ps_ret (pe_cmpR op_ge (pe_callB (call_min1 rfl) (by rfl) T.n_min boot_min (pa_cons (pe_call (ok_ends_at T) (hr.mono (by decide)) (by rfl) T.m_ends_at T.F_ends_at.kp T.B_ends_at .nil pass0 (pa_cons (pv 0) (pa_cons (pv 1) pa_nil))) pa_nil)) pe_int (nomark _)))), ?_⟩
    refine ⟨_, rfl, _, rfl, n, dv, ps, rfl, n1, n5, hd, hs.okl, fun l H1 s1 nl hl => ?_⟩
    refine ⟨l, _, rfl, SqL.of hl, by rw [ends_len n ps hs.okl]; omega, _, _, rfl, rfl, ?_⟩
    show Q (.bl (decide (0 ≤ minL (endsF n ps)))) H1
    rw [decide_eq_true (getD_nn hs.ends)]
    exact kk H1 s1
theorem ok_need_sound : FnOk P w K mg base CX0 6 T.f_need_sound T.d_need_sound ["d", "drawing"] (spNeS K) := by
  refine T.F_need_sound.ok sc_need_sound (fun vs H Q E h => ?_) (fun cdv A outer s H vs Q E hr h => ?_)
  · obtain ⟨_, _, _, rfl, _⟩ := h
    rfl
  · obtain ⟨n, dv, ps, rfl, n1, n5, hd, hs, kk⟩ := h
    refine ⟨_, (pss_cons (ps_expr (pe_call (ok_need_degree T) (hr.mono (by decide)) (by rfl) T.m_need_degree T.F_need_degree.kp T.B_need_degree .nil pass0 (pa_cons (pv 0) pa_nil)))
      (pss_one (ps_if (pt_not (pt_val (pe_call (ok_sound T) (hr.mono (by decide)) (by rfl) T.m_sound T.F_sound.kp T.B_sound .nil pass0 (pa_cons (pv 0) (pa_cons (pv 1) pa_nil))))) (pss_one ps_never) pss_nil))), ?_⟩
    exact ⟨_, rfl, n, rfl, by omega, by omega, _, rfl, _, rfl, n, dv, ps, rfl, n1, n5, hd, hs, fun H1 s1 => ⟨true, rfl, iteF (kk H1 s1)⟩⟩
theorem ok_end_marks : FnOk P w K mg base CX0 5 T.f_end_marks T.d_end_marks ["d", "drawing"] (spEnM K) := by
  refine T.F_end_marks.ok sc_end_marks (fun vs H Q E h => ?_) (fun cdv A outer s H vs Q E hr h => ?_)
  · obtain ⟨_, _, _, rfl, _⟩ := h
    rfl
  · obtain ⟨n, dv, ps, rfl, n1, n5, hd, hs, hlen, kk⟩ := h
    refine ⟨_, (pss_cons (ps_set (i := 2) sc_end_marks.nd rfl (by first | exact Or.inl rfl | exact Or.inr rfl) (pe_lstN pa_nil))
      (pss_cons (ps_for PassesOwn.never rfl (pi_enum (by rfl) T.n_enumerate (pe_call (ok_ends_at T) (hr.mono (by decide)) (by rfl) T.m_ends_at T.F_ends_at.kp T.B_ends_at .nil pass0 (pa_cons (pv 0) (pa_cons (pv 1) pa_nil)))) (pg_tup rfl (pgs_cons (pg_name (i := 3) sc_end_marks.nd rfl (by first | exact Or.inl rfl | exact Or.inr rfl)) (pgs_cons (pg_name (i := 4) sc_end_marks.nd rfl (by first | exact Or.inl rfl | exact Or.inr rfl)) pgs_nil))) (pss_one (ps_expr (pe_bm PySem.F.plainAttrs_list PySem.F.slot_list_extend PySem.F.type_list_extend mt_extend (pv 2) (pa_cons (pe_op op_repN (pe_lstN (pa_cons (pe_tupN (pa_cons (pe_op op_add (pv 3) pe_int) (pa_cons (pe_op op_add (pv 0) pe_int) (pa_cons pe_int pa_nil)))) pa_nil)) (pv 4)) pa_nil)))))
      (pss_one (ps_ret (pv 2))))), ?_⟩
    refine ⟨Nat.zero_le _, fun fo H1 nf s1 hfo => ?_⟩
    refine ⟨_, rfl, _, rfl, n, dv, ps, rfl, n1, n5, hd.mono s1, hs.okl, fun e H2 s2 ne he => ?_⟩
    have el := ends_len n ps hs.okl
    have efo : e ≠ fo := by rintro rfl; rw [hfo] at ne; cases ne
    refine ⟨e, rfl, ⟨_, SqL.of he⟩, for_enum (xs := (endsF n ps).map V.int) (fun i σ H3 => (∃ v3 v4, σ = [some (.int n), some dv, some (.ref fo), v3, v4]) ∧ Same H H3 ∧ H3 e = some (.lst ((endsF n ps).map V.int)) ∧ ∃ vs, H3 fo = some (.lst vs) ∧ Iss H3 (((List.range i).flatMap (endM n (endsF n ps))).map lf) vs)
      ⟨⟨none, none, rfl⟩, s1.trans s2, he, [], s2 _ _ hfo, iss_nil⟩ (fun i σ H3 _ h => SqL.of h.2.2.1) ?_ ?_⟩
    · rintro i x σ H3 p hx ⟨⟨v3, v4, rfl⟩, s3, he3, vs, hf3, hi3⟩ np
      rw [List.getElem?_map] at hx
      obtain ⟨x, hx', rfl⟩ := Option.map_eq_some_iff.mp hx
      have hi : i < n := by have := (List.getElem?_eq_some_iff.mp hx').1; omega
      have ex : (endsF n ps).getD i 0 = x := by rw [List.getD, hx']; rfl
      have x0 : 0 ≤ x := by rw [← ex]; exact hs.ends i
      have pre : ((List.range i).flatMap (endM n (endsF n ps))).length + x.toNat ≤ 20 := by
        have := pre_len (endM n (endsF n ps)) hi
        have e2 : (endM n (endsF n ps) i).length = x.toNat := by unfold endM; rw [List.length_replicate, ex]
        unfold endMs at hlen
        omega
      refine ⟨p, _, rfl, SqT.of upd_same, rfl, _, _, rfl, _, _, rfl, rfl, ?_⟩
      have s4 : Same H3 (upd H3 p (.tup [.int i, .int x])) := Same.new np
      generalize upd H3 p (.tup [.int i, .int x]) = H4 at s4 ⊢
      refine ⟨_, rfl, .inl ⟨rfl, _, SqL.of (s4 _ _ hf3)⟩, _, rfl, _, _, rfl, rfl, _, rfl, _, _, rfl, rfl, (by show 3 ≤ sizeLine; decide), fun t H5 nt s5 ht => ⟨(by show 1 ≤ sizeLine; decide), fun l1 H6 n6 s6 h6 => ?_⟩⟩
      have htl : Is H6 (lf (1 + (i : Int), (n : Int) + 1, 1)) (.ref t) := is_lf (s6 _ _ (by rw [ht]; show some (HO.tup [V.int ((i : Int) + 1), _, _]) = _; rw [Int.add_comm]))
      refine ⟨_, rfl, lf (1 + (i : Int), (n : Int) + 1, 1), x, is_l h6 (iss_cons htl iss_nil), rfl, by omega, by omega, Nat.le_of_lt (small1000 (by omega)), fun l2 H7 n7 s7 h7 => ?_⟩
      obtain ⟨_, us, e2, hl2, hi2⟩ := of_l h7
      cases e2
      have s47 : Same H3 H7 := ((s4.trans s5).trans s6).trans s7
      have hf7 := s47 _ _ hf3
      have ul : us.length = x.toNat := by rw [hi2.length, List.length_replicate]
      have vl := hi3.length
      rw [List.length_map] at vl
      refine ⟨fo, l2, vs, us, rfl, rfl, hf7, hl2, Nat.le_of_lt (small1000 (by omega)), ⟨_, _, rfl⟩, (s3.trans s47).put nf, by rw [upd_ne efo]; exact s47 _ _ he3, _, upd_same, ?_⟩
      rw [flat_succ, List.map_append]
      refine (iss_up s47 hf3 hi3).append (iss_up (Same.refl H7) hf7 ?_)
      have : (endM n (endsF n ps) i).map lf = List.replicate x.toNat (lf (1 + (i : Int), (n : Int) + 1, 1)) := by unfold endM; rw [ex, List.map_replicate]
      rw [this]
      exact hi2
    · rintro σ H3 ⟨⟨v3, v4, rfl⟩, s3, he3, vs, hf3, hi3⟩
      rw [List.length_map, el] at hi3
      exact ⟨_, rfl, kk fo H3 s3 nf (is_l hf3 hi3)⟩
theorem ok_choose : FnOk P w K mg base CX0 1 T.f_choose T.d_choose ["number", "chosen"] (spCho K) := by
  refine T.F_choose.ok sc_choose (fun vs H Q E h => ?_) (fun cdv A outer s H vs Q E hr h => ?_)
  · obtain ⟨_, _, rfl, _⟩ := h
    rfl
  · obtain ⟨n, k, rfl, h1, h2, kk⟩ := h
    refine ⟨_, (pss_cons (ps_if (pw_or (pt_cmpR op_lt (pv 1) pe_int (nomark _)) (pw_or1 (pt_cmpR op_gt (pv 1) (pv 0) (nomark _)))).pt (pss_one (ps_ret pe_int)) pss_nil)
      (pss_cons (ps_set (i := 2) sc_choose.nd rfl (by first | exact Or.inl rfl | exact Or.inr rfl) pe_int)
      (pss_cons (ps_for PassesOwn.never rfl (pi_range1 (by rfl) T.n_range (pa_cons (pv 1) pa_nil)) (pg_name (i := 3) sc_choose.nd rfl (by first | exact Or.inl rfl | exact Or.inr rfl)) (pss_one (ps_set (i := 2) sc_choose.nd rfl (by first | exact Or.inl rfl | exact Or.inr rfl) (pe_op op_fdiv (pe_op op_mul (pv 2) (pe_op op_sub (pv 0) (pv 3))) (pe_op op_add (pv 3) pe_int)))))
      (pss_one (ps_ret (pv 2)))))), ?_⟩
    refine ⟨_, rfl, _, _, rfl, rfl, _, rfl, iteD (fun h => absurd h (by omega)) (fun _ => ?_)⟩
    refine ⟨_, rfl, _, rfl, _, _, rfl, rfl, _, rfl, iteD (fun h => absurd h (by omega)) (fun _ => ?_)⟩
    refine ⟨_, rfl, (k : Int), rfl, by omega, by omega, for_range (lo := 0) (n := (k : Int).toNat) (fun i σ H2 => (∃ v3, σ = [some (.int n), some (.int k), some (.int (chF n i)), v3]) ∧ H2 = H) ⟨⟨none, rfl⟩, rfl⟩ ?_ ?_⟩
    · rintro i σ H2 hi ⟨⟨v3, rfl⟩, rfl⟩
      refine ⟨_, rfl, _, rfl, _, rfl, _, _, rfl, rfl, _, _, rfl, rfl, .inr ⟨by omega, by omega⟩, _, rfl, _, _, rfl, rfl, _, _, rfl, rfl, ⟨by omega, by omega⟩, ⟨some (.int (0 + (i : Int))), ?_⟩, rfl⟩
      rw [show chF n (i + 1) = chF n i * (n - (0 + (i : Int))) / ((0 + (i : Int)) + 1) by rw [Int.zero_add]; rfl]
      rfl
    · rintro σ H2 ⟨⟨v3, rfl⟩, rfl⟩
      rw [Int.toNat_natCast]
      exact ⟨_, rfl, kk⟩
theorem ok_with_more : FnOk P w K mg base CX0 1 T.f_with_more T.d_with_more ["numbers", "place", "more"] (spWm K) := by
  refine T.F_with_more.ok sc_with_more (fun vs H Q E h => ?_) (fun cdv A outer s H vs Q E hr h => ?_)
  · obtain ⟨_, _, _, _, rfl, _⟩ := h
    rfl
  · obtain ⟨v, t, p, m, rfl, hv, hp, hl, kk⟩ := h
    refine ⟨_, (pss_one (ps_ret (pe_op op_catA (pe_op op_catA (pe_slice sl_tupN (pv 0) po_none (po_some (pv 1))) (pe_tupN (pa_cons (pe_op op_add (pe_ix ix_tupN (pv 0) (pv 1) (fun _ _ => rfl)) (pv 2)) pa_nil))) (pe_slice sl_tupN (pv 0) (po_some (pe_op op_add (pv 1) pe_int)) po_none)))), ?_⟩
    have hlen : ∀ vs : List V, vs.length = (t.map D.i).length → vs.length = t.length := fun vs e => by rw [e, List.length_map]
    refine ⟨_, rfl, _, rfl, (p : Int), rfl, t.map .i, (t.take p).map .i, hv, ti_cut, fun vs e h => ?_, fun u1 H1 s1 hu1 => ?_⟩
    · have e := hlen vs e
      rw [HT.sIx_nat] at h
      omega
    refine ⟨_, rfl, _, rfl, t.map .i, (p : Int), .i (t.getD p 0), hv.mono s1, rfl, ?_, fun u hu => ?_⟩
    · refine ix_D (j := p) rfl ?_
      rw [List.getElem?_map, List.getElem?_eq_getElem hp]
      simp [List.getD, hp]
    rw [of_i hu]
    refine ⟨_, rfl, _, _, rfl, rfl, (by show 1 ≤ sizeLine; decide), fun q2 H2 n2 s2 h2 => ?_⟩
    have hu2 : Is H2 (.t [.i (t.getD p 0 + m)]) (.ref q2) := is_t h2 (iss_cons is_i iss_nil)
    refine ⟨_, _, hu1.mono s2, hu2, Nat.le_of_lt (small1000 (by rw [List.length_map, List.length_take]; show _ + 1 ≤ 1000; omega)), fun u3 H3 s3 hu3 => ?_⟩
    refine ⟨_, rfl, _, rfl, _, _, rfl, rfl, (p : Int) + 1, rfl, t.map .i, (t.drop (p + 1)).map .i, ((hv.mono s1).mono s2).mono s3, ?_, fun vs e h => ?_, fun u4 H4 s4 hu4 => ?_⟩
    · rw [show ((p : Int) + 1) = ((p + 1 : Nat) : Int) by omega]
      exact ti_drop (by omega)
    · have e := hlen vs e
      rw [show ((p : Int) + 1) = ((p + 1 : Nat) : Int) by omega, HT.sIx_nat] at h
      omega
    refine ⟨_, _, hu3.mono s4, hu4, Nat.le_of_lt (small1000 (by rw [List.length_append, List.length_map, List.length_map, List.length_take, List.length_drop]; show _ + 1 + _ ≤ 1000; omega)), fun u5 H5 s5 hu5 => ?_⟩
    refine kk u5 H5 ((((s1.trans s2).trans s3).trans s4).trans s5) ?_
    have e : (t.take p).map D.i ++ [D.i (t.getD p 0 + m)] ++ (t.drop (p + 1)).map D.i = (wmF t p m).map D.i := by
      unfold wmF
      rw [← set_cut hp, List.map_append, List.map_append]
      rfl
    rw [e] at hu5
    exact hu5
theorem ok_put_between : ∀ n : Nat, FnOk P w K mg base CX0 (n + 2) T.f_put_between T.d_put_between ["numbers", "first", "last", "alike"] (spPB n K)
  | 0 => ⟨fun vs H Q E h => (by obtain ⟨_, _, _, _, _, _, _, h, _⟩ := h; exact absurd h (Nat.not_lt_zero _)), fun A outer s H args us vs Q E _ _ _ _ h => (by obtain ⟨_, _, _, _, _, _, _, h, _⟩ := h; exact absurd h (Nat.not_lt_zero _))⟩
  | n + 1 => by
    have ih := ok_put_between n
    refine T.F_put_between.ok sc_put_between (fun vs H Q E h => ?_) (fun cdv A outer s H vs Q E hr h => ?_)
    · obtain ⟨_, _, _, _, _, rfl, _⟩ := h
      rfl
    · obtain ⟨v, t, p, g, a, rfl, hv, hg, hn, hp, ⟨kl, kn, ks⟩, kk⟩ := h
      refine ⟨_, (pss_cons (ps_if (pt_cmpR op_eq (pv 1) (pv 2) (nomark _)) (pss_one (ps_ret (pe_lstN (pa_cons (pe_tupN (pa_cons (pe_call (ok_with_more T) (hr.mono (by omega)) (by rfl) T.m_with_more T.F_with_more.kp T.B_with_more .nil pass0 (pa_cons (pv 0) (pa_cons (pv 1) (pa_cons (pv 3) pa_nil)))) (pa_cons (pe_call (ok_choose T) (hr.mono (by omega)) (by rfl) T.m_choose T.F_choose.kp T.B_choose .nil pass0 (pa_cons (pe_op op_add (pe_ix ix_tupN (pv 0) (pv 1) (fun _ _ => rfl)) (pv 3)) (pa_cons (pv 3) pa_nil))) pa_nil))) pa_nil)))) pss_nil)
      (pss_cons (ps_set (i := 4) sc_put_between.nd rfl (by first | exact Or.inl rfl | exact Or.inr rfl) (pe_lstN pa_nil))
      (pss_cons (ps_for PassesOwn.never rfl (pi_range1 (by rfl) T.n_range (pa_cons (pe_op op_add (pv 3) pe_int) pa_nil)) (pg_name (i := 5) sc_put_between.nd rfl (by first | exact Or.inl rfl | exact Or.inr rfl)) (pss_cons (ps_set (i := 6) sc_put_between.nd rfl (by first | exact Or.inl rfl | exact Or.inr rfl) (pe_call (ok_choose T) (hr.mono (by omega)) (by rfl) T.m_choose T.F_choose.kp T.B_choose .nil pass0 (pa_cons (pe_op op_add (pe_ix ix_tupN (pv 0) (pv 1) (fun _ _ => rfl)) (pv 5)) (pa_cons (pv 5) pa_nil))))
      (pss_one (ps_for PassesOwn.never rfl (pi_list (pe_call ih hr (by rfl) T.m_put_between T.F_put_between.kp T.B_put_between .nil pass0 (pa_cons (pe_call (ok_with_more T) (hr.mono (by omega)) (by rfl) T.m_with_more T.F_with_more.kp T.B_with_more .nil pass0 (pa_cons (pv 0) (pa_cons (pv 1) (pa_cons (pv 5) pa_nil)))) (pa_cons (pe_op op_add (pv 1) pe_int) (pa_cons (pv 2) (pa_cons (pe_op op_sub (pv 3) (pv 5)) pa_nil)))))) (pg_tup rfl (pgs_cons (pg_name (i := 7) sc_put_between.nd rfl (by first | exact Or.inl rfl | exact Or.inr rfl)) (pgs_cons (pg_name (i := 8) sc_put_between.nd rfl (by first | exact Or.inl rfl | exact Or.inr rfl)) pgs_nil))) (pss_one (ps_expr (pe_bm PySem.F.plainAttrs_list PySem.F.slot_list_append PySem.F.type_list_append mt_append (pv 4) (pa_cons (pe_tupN (pa_cons (pv 7) (pa_cons (pe_op op_mul (pv 6) (pv 8)) pa_nil))) pa_nil))))))))
      (pss_one (ps_ret (pv 4)))))), ?_⟩
      have kp := (le_sum kn).2 p
      have kp0 := kn p
      have at_p : ∀ {H' : Hp}, Same H H' → ∀ {v' : V}, Is H' (tI t) v' → atI (t.map D.i) (p : Int) = some (.i (t.getD p 0)) := fun _ _ _ => by
        refine ix_D (j := p) rfl ?_
        rw [List.getElem?_map, List.getElem?_eq_getElem (by omega)]
        simp [List.getD, show p < t.length by omega]
      refine ⟨_, rfl, _, rfl, rfl, _, rfl, iteE (fun e => ?_) (fun e => ?_)⟩
      · have hg0 : g = 0 := by omega
        subst hg0
        refine ⟨_, rfl, _, rfl, _, rfl, v, t, p, a, rfl, hv, by omega, kl, fun u1 H1 s1 hu1 => ?_⟩
        refine ⟨_, rfl, _, rfl, t.map .i, (p : Int), _, hv.mono s1, rfl, at_p s1 (hv.mono s1), fun u hu => ?_⟩
        rw [of_i hu]
        refine ⟨_, rfl, _, _, rfl, rfl, _, rfl, t.getD p 0 + a, a, rfl, by omega, by omega, ?_⟩
        refine ⟨(by show 2 ≤ sizeLine; decide), fun q2 H2 n2 s2 h2 => ⟨(by show 1 ≤ sizeLine; decide), fun q3 H3 n3 s3 h3 => ?_⟩⟩
        have s02 := s1.trans s2
        refine kk q3 H3 (s02.trans s3) (s02.free n3) (is_l h3 (iss_cons ((is_pr (x := (wmF t p (a : Int), chF (t.getD p 0 + (a : Int)) a)) h2 (hu1.mono s2)).mono s3) iss_nil))
      · obtain ⟨g, rfl⟩ : ∃ g', g = g' + 1 := ⟨g - 1, by omega⟩
        refine ⟨Nat.zero_le _, fun fo H1 nf s1 hfo => ?_⟩
        have big := pb_small (g := g + 1) (t := t) (p := p) (a := a) (by omega) (by have := (le_sum kn).1; omega)
        have a15 : (a : Int) ≤ 15 := by have := (le_sum kn).1; omega
        refine ⟨_, rfl, _, _, rfl, rfl, _, rfl, by omega, by omega, ?_⟩
        rw [show ((a : Int) + 1).toNat = a + 1 by omega]
        refine for_range (lo := 0) (n := a + 1) (fun h σ H2 => (∃ v5 v6 v7 v8, σ = [some v, some (.int p), some (.int ((p : Int) + ((g + 1 : Nat) : Int))), some (.int a), some (.ref fo), v5, v6, v7, v8]) ∧ Same H H2 ∧ ∃ vs, H2 fo = some (.lst vs) ∧ Iss H2 (((List.range h).flatMap fun h : Nat => (pbF g (wmF t p (h : Int)) (p + 1) (a - h)).map fun x => (x.1, chF (t.getD p 0 + (h : Int)) h * x.2)).map prD) vs) ⟨⟨none, none, none, none, rfl⟩, s1, [], hfo, iss_nil⟩ ?_ ?_
        · rintro h σ H2 hh ⟨⟨v5, v6, v7, v8, rfl⟩, s2, vs2, hf2, hi2⟩
          rw [Int.zero_add]
          have hb : ∀ j, j ≤ (pbF g (wmF t p (h : Int)) (p + 1) (a - h)).length → ((List.range h).flatMap fun h : Nat => (pbF g (wmF t p (h : Int)) (p + 1) (a - h)).map fun x => (x.1, chF (t.getD p 0 + (h : Int)) h * x.2)).length + j ≤ 1048576 := fun j hj => by
            have := pre_len (fun h : Nat => (pbF g (wmF t p (h : Int)) (p + 1) (a - h)).map fun x => (x.1, chF (t.getD p 0 + (h : Int)) h * x.2)) hh
            rw [List.length_map] at this
            unfold pbF at big
            omega
          rw [flat_succ]
          generalize ((List.range h).flatMap fun h : Nat => (pbF g (wmF t p (h : Int)) (p + 1) (a - h)).map fun x => (x.1, chF (t.getD p 0 + (h : Int)) h * x.2)) = pr at hi2 hb ⊢
          obtain ⟨c1, c2⟩ := ch_le (n := t.getD p 0 + (h : Int)) (k := h) (by omega) (by omega)
          refine ⟨_, rfl, _, rfl, t.map .i, (p : Int), _, hv.mono s2, rfl, at_p s2 (hv.mono s2), fun u hu => ?_⟩
          rw [of_i hu]
          refine ⟨_, rfl, _, _, rfl, rfl, _, rfl, t.getD p 0 + (h : Int), h, rfl, by omega, by omega, ?_⟩
          refine ⟨_, rfl, _, rfl, _, rfl, v, t, p, (h : Int), rfl, hv.mono s2, by omega, kl, fun u3 H3 s3 hu3 => ?_⟩
          refine ⟨_, rfl, _, _, rfl, rfl, _, rfl, _, rfl, _, rfl, _, _, rfl, rfl, u3, wmF t p (h : Int), p + 1, g, a - h, ?_, hu3, by omega, by omega, by rw [wm_len]; omega, ⟨by rw [wm_len]; exact kl, fun i => ?_, ?_⟩, fun rl H4 s4 nrl hrl => ?_⟩
          · have e1 : ((p : Int) + 1) = ((p + 1 : Nat) : Int) := by omega
            have e2 : (p : Int) + ((g + 1 : Nat) : Int) = ((p + 1 : Nat) : Int) + (g : Int) := by omega
            have e3 : (a : Int) - (h : Int) = ((a - h : Nat) : Int) := by omega
            show [u3, V.int ((p : Int) + 1), V.int ((p : Int) + ((g + 1 : Nat) : Int)), V.int ((a : Int) - (h : Int))] = _
            rw [e1, e2, e3]
          · rw [wm_at (by omega)]
            have := kn i
            split <;> omega
          · rw [sum_set (by omega)]
            omega
          obtain ⟨_, rvs, e, hrl4, hri⟩ := of_l hrl
          cases e
          generalize pbF g (wmF t p (h : Int)) (p + 1) (a - h) = O at hri hb ⊢
          have rlen : rvs.length = O.length := by rw [hri.length, List.length_map]
          have s24 := s3.trans s4
          have hf4 := s24 _ _ hf2
          have rlfo : rl ≠ fo := by rintro rfl; rw [s3 _ _ hf2] at nrl; cases nrl
          refine ⟨rl, rfl, ⟨_, SqL.of hrl4⟩, for_list (xs := rvs) (fun j σ H5 => (∃ v7 v8, σ = [some v, some (.int p), some (.int ((p : Int) + ((g + 1 : Nat) : Int))), some (.int a), some (.ref fo), some (.int h), some (.int (chF (t.getD p 0 + (h : Int)) h)), v7, v8]) ∧ Same H H5 ∧ H5 rl = some (.lst rvs) ∧ TupS H4 H5 ∧ ∃ vs, H5 fo = some (.lst vs) ∧ Iss H5 ((pr ++ (O.take j).map fun x => (x.1, chF (t.getD p 0 + (h : Int)) h * x.2)).map prD) vs) ⟨⟨_, _, rfl⟩, s2.trans s24, hrl4, TupS.of_same (Same.refl H4), vs2, hf4, by simpa using hi2.mono s24⟩ (fun j σ H5 _ h => SqL.of h.2.2.1) ?_ ?_⟩
          · rintro j y σ H5 hj ⟨⟨v7, v8, rfl⟩, s5, hrl5, t5, vs5, hf5, hi5⟩
            obtain ⟨dd, hdd, hy⟩ := hri.of_get hj
            rw [List.getElem?_map] at hdd
            obtain ⟨x, hx', rfl⟩ := Option.map_eq_some_iff.mp hdd
            have hjl : j < O.length := (List.getElem?_eq_some_iff.mp hx').1
            obtain ⟨q, u6, rfl, hq, hu6⟩ := of_pr (pr_tup t5 hy)
            have vl := hi5.length
            rw [List.length_map, List.length_append, List.length_map, List.length_take] at vl
            have hbj := hb (j + 1) (by omega)
            refine ⟨q, _, rfl, SqT.of hq, rfl, _, _, rfl, _, _, rfl, rfl, ?_⟩
            refine ⟨_, rfl, .inl ⟨rfl, _, SqL.of hf5⟩, _, rfl, _, rfl, _, rfl, _, _, rfl, rfl, .inl ⟨by omega, by omega⟩, (by show 2 ≤ sizeLine; decide), fun q6 H6 n6 s6 h6 => ?_⟩
            refine ⟨fo, vs5, _, rfl, rfl, s6 _ _ hf5, lineB (by omega), ⟨_, _, rfl⟩, (s5.trans s6).put nf, by rw [upd_ne rlfo]; exact s6 _ _ hrl5, (t5.trans (TupS.of_same s6)).trans (TupS.upd (s6 _ _ hf5)), _, upd_same, ?_⟩
            have ez : (pr ++ (O.take (j + 1)).map fun x => (x.1, chF (t.getD p 0 + (h : Int)) h * x.2)) = (pr ++ (O.take j).map fun x => (x.1, chF (t.getD p 0 + (h : Int)) h * x.2)) ++ [(x.1, chF (t.getD p 0 + (h : Int)) h * x.2)] := by
              rw [List.take_add_one, hx', Option.toList_some, List.map_append, List.append_assoc]
              rfl
            rw [ez, List.map_append]
            refine (prs_tup ((TupS.of_same s6).trans (TupS.upd (s6 _ _ hf5))) hi5).append ?_
            exact iss_cons (pr_tup (TupS.upd (s6 _ _ hf5)) (is_pr (x := (x.1, chF (t.getD p 0 + (h : Int)) h * x.2)) h6 (hu6.mono s6))) iss_nil
          · rintro σ H5 ⟨⟨v7, v8, rfl⟩, s5, hrl5, t5, vs5, hf5, hi5⟩
            rw [rlen, List.take_length] at hi5
            exact ⟨⟨_, _, _, _, rfl⟩, s5, vs5, hf5, hi5⟩
        · rintro σ H2 ⟨⟨v5, v6, v7, v8, rfl⟩, s2, vs2, hf2, hi2⟩
          exact ⟨_, rfl, kk fo H2 s2 nf (is_l hf2 hi2)⟩
theorem ok_how_many_orders : FnOk P w K mg base CX0 9 T.f_how_many_orders T.d_how_many_orders ["d", "marks"] (spHMO K) := by
  refine T.F_how_many_orders.ok sc_how_many_orders (fun vs H Q E h => ?_) (fun cdv A outer s H vs Q E hr h => ?_)
  · obtain ⟨_, _, _, rfl, _⟩ := h
    rfl
  · obtain ⟨d, v, mk, rfl, d1, d5, hv, ⟨mok, mlen⟩, kk⟩ := h
    refine ⟨_, (pss_cons (ps_set (i := 2) sc_how_many_orders.nd rfl (by first | exact Or.inl rfl | exact Or.inr rfl) (pe_disp1 (hu_of hr) (pe_callTy call_tuple_ofN (by rfl) T.n_tuple boot_tuple (pa_cons (pe_op op_repN (pe_lstN (pa_cons pe_int pa_nil)) (pv 0)) pa_nil)) pe_int))
      (pss_cons (ps_for PassesOwn.never rfl (pi_list (pe_sset (hu8_of hr) hr.hd (by rfl) T.n_sorted (by rfl) T.n_set (pa_cons (pv 1) pa_nil))) (pg_name (i := 3) sc_how_many_orders.nd rfl (by first | exact Or.inl rfl | exact Or.inr rfl)) (pss_cons (ps_set (i := 4) sc_how_many_orders.nd rfl (by first | exact Or.inl rfl | exact Or.inr rfl) pe_dnewT)
      (pss_cons (ps_for PassesOwn.never rfl (pi_dict (pv 2)) (pg_name (i := 5) sc_how_many_orders.nd rfl (by first | exact Or.inl rfl | exact Or.inr rfl)) (pss_one (ps_for PassesOwn.never rfl (pi_list (pe_call (ok_put_between T 6) (hr.mono (by decide)) (by rfl) T.m_put_between T.F_put_between.kp T.B_put_between .nil pass0 (pa_cons (pv 5) (pa_cons (pe_op op_sub (pe_ix ix_tupN (pv 3) pe_int (fun _ _ => rfl)) pe_int) (pa_cons (pe_op op_sub (pe_ix ix_tupN (pv 3) pe_int (fun _ _ => rfl)) pe_int) (pa_cons (pe_bm PySem.F.plainAttrs_list PySem.F.slot_list_count PySem.F.type_list_count (mt_countD hr) (pv 1) (pa_cons (pv 3) pa_nil)) pa_nil)))))) (pg_tup rfl (pgs_cons (pg_name (i := 6) sc_how_many_orders.nd rfl (by first | exact Or.inl rfl | exact Or.inr rfl)) (pgs_cons (pg_name (i := 7) sc_how_many_orders.nd rfl (by first | exact Or.inl rfl | exact Or.inr rfl)) pgs_nil))) (pss_one (ps_dput (hu_of hr) (pv 4) (pv 6) (pe_op op_add (pe_dget2 (hu_of hr) (pv 4) (pv 6) pe_int ⟨rfl, rfl, rfl, rfl⟩) (pe_op op_mul (pe_dget (hu_of hr) (pv 2) (pv 5) (fun _ _ => rfl)) (pv 7))) rfl)))))
      (pss_one (ps_set (i := 2) sc_how_many_orders.nd rfl (by first | exact Or.inl rfl | exact Or.inr rfl) (pv 4))))))
      (pss_one (ps_ret (pe_sumv rfl (by rfl) T.n_sum (pv 2)))))), ?_⟩
    obtain ⟨wa, wvs, rfl, hwa, hwi⟩ := of_l hv
    have wlen : wvs.length = mk.length := by rw [hwi.length, List.length_map]
    refine fun kd nkd => ?_
    have s0 : Same H (upd H kd (.dT [])) := Same.new nkd
    have hkd0 : upd H kd (.dT []) kd = some (.dT []) := upd_same
    generalize upd H kd (.dT []) = H0 at s0 hkd0 ⊢
    refine ⟨(by show 1 ≤ sizeLine; decide), fun l1 H1 n1 s1 h1 => ?_⟩
    refine ⟨_, rfl, .i 0, d, is_l h1 (iss_cons is_i iss_nil), rfl, by omega, by omega, Nat.le_of_lt (small1000 (by omega)), fun l2 H2 n2 s2 h2 => ?_⟩
    refine ⟨.ref l2, _, rfl, h2, fun t3 H3 n3 s3 h3 => ?_⟩
    have s03 := (s1.trans s2).trans s3
    have hkd3 := s03 _ _ hkd0
    rw [Int.toNat_natCast] at h3
    have ht3 : H3 t3 = some (.tup ((keyL (List.replicate d 0)).map kV)) := by
      rw [← List.map_replicate] at h3
      obtain ⟨a, e, ha⟩ := of_tI (xs := List.replicate d 0) h3
      cases e
      rw [keyL_kV]
      exact ha
    refine ⟨hkd3, keyL (List.replicate d 0), t3, rfl, ht3, ?_⟩
    have e0 : putK ([] : List (List Key × V)) (keyL (List.replicate d 0)) (.int 1) = tabK [(List.replicate d 0, 1)] := tabK_put [] _ _
    rw [e0]
    have sH : Same H (upd H3 kd (.dT (tabK [(List.replicate d 0, 1)]))) := (s0.trans s03).put nkd
    have hkd : upd H3 kd (.dT (tabK [(List.replicate d 0, 1)])) kd = some (.dT (tabK [(List.replicate d 0, 1)])) := upd_same
    generalize upd H3 kd (.dT (tabK [(List.replicate d 0, 1)])) = H4 at sH hkd ⊢
    clear h1 h2 h3 ht3 hkd3 s03 s1 s2 s3 n1 n2 n3 hkd0 s0 e0 H0 H1 H2 H3
    have tab0 : TabOk d 0 [(List.replicate d 0, (1 : Int))] := by
      refine ⟨by simp, fun x hx => ?_⟩
      rw [List.mem_singleton.mp hx]
      refine ⟨by simp, by simp, fun i => ?_⟩
      rw [List.getD_eq_getElem?_getD, List.getElem?_replicate]
      split <;> simp
    refine ⟨_, rfl, .ref wa, mk.map row3, 3, rfl, by rw [← lfs_rows]; exact hv.mono sH, by decide, rows_len, by rw [List.length_map]; omega, fun yss l0 H5 nd mem so nl0 s5 hq => ?_⟩
    have ey := sset_is nd mem so
    subst ey
    rw [← lfs_rows] at hq
    clear nd mem so
    have hhm : sumD [(List.replicate d 0, (1 : Int))] (TF (fun m => mk.count m) (sset mk)) = hmF d mk := by
      simp [sumD, hmF]
    have hS : ∀ m ∈ sset mk, m ∈ mk := fun m hm => sset_mem.mp hm
    have hSn := sset_nd mk
    generalize hcn : (fun m => mk.count m) = cnt at hhm
    generalize hmF d mk = tot at hhm kk
    generalize sset mk = S at hq hhm hS hSn
    obtain ⟨_, lvs, e, hl0, hli⟩ := of_l hq
    cases e
    have llen : lvs.length = S.length := by rw [hli.length, List.length_map]
    refine ⟨l0, rfl, ⟨_, SqL.of hl0⟩, for_list (xs := lvs) (fun i σ H6 => (∃ kd D n, (∃ v3 v4 v5 v6 v7, σ = [some (.int d), some (.ref wa), some (.ref kd), v3, v4, v5, v6, v7]) ∧ H6 kd = some (.dT (tabK D)) ∧ TabOk d n D ∧ n = ((S.take i).map cnt).sum ∧ sumD D (TF cnt (S.drop i)) = tot ∧ H kd = none) ∧ Same H H6 ∧ H6 l0 = some (.lst lvs) ∧ TupS H5 H6) ⟨⟨kd, _, 0, ⟨none, none, none, none, none, rfl⟩, s5 _ _ hkd, tab0, rfl, hhm, nkd⟩, sH.trans s5, hl0, TupS.of_same (Same.refl H5)⟩ (fun i σ H6 _ h => SqL.of h.2.2.1) ?_ ?_⟩
    · rintro i y σ H6 hi ⟨⟨kd, D, n, ⟨v3, v4, v5, v6, v7, rfl⟩, hkd6, tab, hn, hsum, nkd⟩, s6, hl6, t6⟩
      obtain ⟨dd, hdd, hy⟩ := hli.of_get hi
      rw [List.getElem?_map] at hdd
      obtain ⟨x, hx', rfl⟩ := Option.map_eq_some_iff.mp hdd
      have hil : i < S.length := (List.getElem?_eq_some_iff.mp hx').1
      have exi : S[i] = x := (List.getElem?_eq_some_iff.mp hx').2
      obtain ⟨ya, rfl, hya⟩ := of_lf hy
      obtain ⟨o1, o2, o3⟩ := mok x (hS x (List.mem_of_getElem? hx'))
      have hn' : ((S.take (i + 1)).map cnt).sum = n + cnt x := by
        rw [List.take_add_one, hx', List.map_append, List.sum_append, ← hn]
        simp
      have hn15 : n + cnt x ≤ 15 := by
        have := count_sum mk (S.take (i + 1)) (hSn.sublist (List.take_sublist _ _))
        rw [hcn, hn'] at this
        omega
      rw [List.drop_eq_getElem_cons hil, exi, tf_cons] at hsum
      obtain ⟨p, hp⟩ : ∃ p : Nat, x.1 - 1 = (p : Int) := ⟨(x.1 - 1).toNat, by omega⟩
      obtain ⟨g, hg⟩ : ∃ g : Nat, x.2.1 - x.1 - 1 = (g : Int) := ⟨(x.2.1 - x.1 - 1).toNat, by omega⟩
      rw [hp, hg, Int.toNat_natCast, Int.toNat_natCast] at hsum
      have rok : RowsOk p d n (n + cnt x) (spR g (cnt x)) := fun r hr => by
        obtain ⟨e1, e2⟩ := spR_len hr
        exact ⟨by omega, by omega⟩
      obtain ⟨tab', sum'⟩ := stP_ok rok (TF cnt (S.drop (i + 1))) tab.key (acc := []) ⟨by simp, fun x hx => nomatch hx⟩
      refine fun f nf => ?_
      have s7 : Same H6 (upd H6 f (.dT [])) := Same.new nf
      have hf7 : upd H6 f (.dT []) f = some (.dT (tabK [])) := upd_same
      have nfH : H f = none := s6.free nf
      have fkd : f ≠ kd := by rintro rfl; rw [hkd6] at nf; cases nf
      generalize upd H6 f (.dT []) = H7 at s7 hf7 ⊢
      refine ⟨_, rfl, kd, tabK D, rfl, .inl (s7 _ _ hkd6), fun o H8 hk8 same8 => ?_⟩
      have l8 : LTS H7 H8 := LTS.rd (.inl (s7 _ _ hkd6)) same8
      have s8 : Same H H8 := fun b u e => by rw [same8 b (by rintro rfl; rw [nkd] at e; cases e)]; exact s7 _ _ (s6 _ _ e)
      refine for_dict (fun j σ H9 => (∃ v5 v6 v7, σ = [some (.int d), some (.ref wa), some (.ref kd), some (.ref ya), some (.ref f), v5, v6, v7]) ∧ Same H H9 ∧ H9 kd = some (.frz o (.dT (tabK D))) ∧ H9 l0 = some (.lst lvs) ∧ TupS H5 H9 ∧ H9 f = some (.dT (tabK (stP p (spR g (cnt x)) (D.take j) [])))) ⟨⟨_, _, _, rfl⟩, s8, hk8, l8.1 _ _ (s7 _ _ hl6), (t6.trans (TupS.of_same s7)).trans l8.2, by rw [same8 f fkd]; exact hf7⟩ (fun j σ H9 _ h => h.2.2.1) ?_ ?_
      · rintro j k c b σ H9 hj ⟨⟨v5, v6, v7, rfl⟩, s9, hk9, hl9, t9, hf9⟩ hb
        unfold tabK at hj
        rw [List.getElem?_map] at hj
        obtain ⟨⟨t, cv⟩, hD, ekc⟩ := Option.map_eq_some_iff.mp hj
        simp only [Prod.mk.injEq] at ekc
        obtain ⟨rfl, rfl⟩ := ekc
        rw [keyL_kV] at hb
        have hDm : (t, cv) ∈ D := List.mem_of_getElem? hD
        obtain ⟨k1, k2, k3⟩ : t.length = d ∧ t.sum = (n : Int) ∧ ∀ i : Nat, 0 ≤ t.getD i 0 := tab.key _ hDm
        have hx9 : Is H9 (lf x) (.ref ya) := is_lf (t9 _ _ hya)
        have hw9 := hwi.mono s9
        rw [fold_step_P hD]
        have tabac := (stP_ok rok (fun _ => 0) (xs := D.take j) (fun y hy => tab.key y (List.mem_of_mem_take hy)) (acc := []) ⟨by simp, fun x hx => nomatch hx⟩).1
        generalize stP p (spR g (cnt x)) (D.take j) [] = ac at hf9 tabac ⊢
        refine ⟨_, rfl, _, rfl, _, 0, _, hx9, rfl, rfl, fun u1 hu1 => ?_⟩
        rw [of_i hu1]
        refine ⟨_, _, rfl, rfl, _, rfl, _, 1, _, hx9, rfl, rfl, fun u2 hu2 => ?_⟩
        rw [of_i hu2]
        refine ⟨_, _, rfl, rfl, _, rfl, .inl ⟨rfl, _, SqL.of (s9 _ _ hwa)⟩, _, rfl, wa, wvs, .ref ya, 1, _, rfl, rfl, SqL.of (s9 _ _ hwa), told2_m hw9 hx9, ?_⟩
        rw [wlen, count_at]
        refine ⟨.ref b, t, p, g, cnt x, ?_, is_tI hb, by omega, by decide, by omega, ⟨by omega, k3, by omega⟩, fun rl H10 s10 nrl hrl => ?_⟩
        · show [V.ref b, V.int (x.1 - 1), V.int (x.2.1 - 2), V.int (mk.count x : Nat)] = _
          rw [hp, show x.2.1 - 2 = (p : Int) + (g : Int) by omega, ← hcn]
        rw [pb_eq (by omega), List.map_map] at hrl
        obtain ⟨_, rvs, e, hrl10, hri⟩ := of_l hrl
        cases e
        have hrs : ∀ r ∈ spR g (cnt x), r.length = g + 1 ∧ r.sum = cnt x := fun r hr => spR_len hr
        generalize spR g (cnt x) = rs at hri rok hrs ⊢
        have rlen : rvs.length = rs.length := by rw [hri.length, List.length_map]
        have hk10 := s10 _ _ hk9
        have hf10 := s10 _ _ hf9
        have rlf : rl ≠ f := by rintro rfl; rw [hf9] at nrl; cases nrl
        have l0f : l0 ≠ f := by rintro rfl; rw [hl9] at hf9; cases hf9
        refine ⟨rl, rfl, ⟨_, SqL.of hrl10⟩, for_list (xs := rvs) (fun m σ H11 => (∃ v6 v7, σ = [some (.int d), some (.ref wa), some (.ref kd), some (.ref ya), some (.ref f), some (.ref b), v6, v7]) ∧ Same H H11 ∧ H11 kd = some (.frz o (.dT (tabK D))) ∧ H11 l0 = some (.lst lvs) ∧ TupS H10 H11 ∧ H11 rl = some (.lst rvs) ∧ H11 f = some (.dT (tabK (inP t cv p (rs.take m) ac)))) ⟨⟨_, _, rfl⟩, s9.trans s10, hk10, s10 _ _ hl9, TupS.of_same (Same.refl H10), hrl10, hf10⟩ (fun m σ H11 _ h => SqL.of h.2.2.2.2.2.1) ?_ ?_⟩
        · rintro m z σ H11 hm ⟨⟨v6, v7, rfl⟩, s11, hk11, hl11, t11, hrl11, hf11⟩
          obtain ⟨dd, hdd, hz⟩ := hri.of_get hm
          rw [List.getElem?_map] at hdd
          obtain ⟨r, hr', rfl⟩ := Option.map_eq_some_iff.mp hdd
          obtain ⟨q, u6, rfl, hq, hu6⟩ := of_pr (pr_tup t11 hz)
          obtain ⟨ua, rfl, hua⟩ := of_tI hu6
          obtain ⟨r1, r2⟩ := hrs r (List.mem_of_getElem? hr')
          have hua' : H11 ua = some (.tup ((keyL (addR t p r)).map kV)) := by rw [keyL_kV]; exact hua
          have hb11 : H11 b = some (.tup ((keyL t).map kV)) := by rw [keyL_kV]; exact t11 _ _ (s10 _ _ hb)
          have tabm := (inP_ok (v := cv) ⟨k1, k2, k3⟩ (fun _ => 0) (rs := rs.take m) (fun r hr => rok r (List.mem_of_mem_take hr)) tabac).1
          refine ⟨q, _, rfl, SqT.of hq, rfl, _, _, rfl, _, _, rfl, rfl, ?_⟩
          refine ⟨_, rfl, f, rfl, .inr ⟨_, .inl hf11⟩, _, rfl, _, DGet.t hf11 hua', ?_⟩
          rw [tabK_get]
          refine ⟨_, rfl, _, rfl, kd, .int cv, rfl, .inr ⟨tabK D, keyL t, b, .inr ⟨o, hk11⟩, rfl, hb11, (tabK_at tab.nd hDm).symm⟩, _, rfl, _, _, rfl, rfl, .inr (rowP_small k3 (by omega) (by omega)), _, _, rfl, rfl, _, rfl, _, rfl, f, _, rfl, DPut.t hf11 hua' ?_, ?_⟩
          · rw [tabK_len]
            exact lineB (tabm.size d5 hn15)
          · rw [show inP t cv p (rs.take (m + 1)) ac = addD (inP t cv p (rs.take m) ac) (addR t p r) (cv * rowP t p r) from fold_take _ _ rs m r hr']
            rw [tabK_put]
            exact ⟨⟨_, _, rfl⟩, s11.put nfH, by rw [upd_ne fkd.symm]; exact hk11, by rw [upd_ne l0f]; exact hl11, t11.trans (tup_dict hf11), by rw [upd_ne rlf]; exact hrl11, upd_same⟩
        · rintro σ H11 ⟨⟨v6, v7, rfl⟩, s11, hk11, hl11, t11, hrl11, hf11⟩
          rw [rlen, List.take_length] at hf11
          exact ⟨⟨_, _, _, rfl⟩, s11, hk11, hl11, (t9.trans (TupS.of_same s10)).trans t11, hf11⟩
      · rintro σ H9 ⟨⟨v5, v6, v7, rfl⟩, s9, hk9, hl9, t9, hf9⟩
        rw [tabK_len, List.take_length] at hf9
        refine ⟨_, rfl, ⟨f, _, n + cnt x, ⟨_, _, _, _, _, rfl⟩, hf9, tab', hn'.symm, ?_, nfH⟩, s9, hl9, t9⟩
        rw [sum', hsum]
        simp [sumD]
    · rintro σ H6 ⟨⟨kd, D, n, ⟨v3, v4, v5, v6, v7, rfl⟩, hkd6, tab, hn, hsum, nkd⟩, s6, hl6, t6⟩
      refine ⟨_, rfl, kd, tabK D, D.map (·.2), rfl, .inl hkd6, tabK_vals D, ?_⟩
      rw [llen, List.drop_length] at hsum
      have : (D.map (·.2)).sum = tot := by rw [← sumD_one, ← hsum]; rfl
      rw [this]
      exact kk H6 s6
theorem ok_how_many : FnOk P w K mg base CX0 10 T.f_how_many T.d_how_many ["d", "drawing"] (spHM K) := by
  refine T.F_how_many.ok sc_how_many (fun vs H Q E h => ?_) (fun cdv A outer s H vs Q E hr h => ?_)
  · obtain ⟨_, _, _, rfl, _⟩ := h
    rfl
  · obtain ⟨d, dv, ps, rfl, d1, d5, hd, hs, kk⟩ := h
    refine ⟨_, (pss_cons (ps_expr (pe_call (ok_need_sound T) (hr.mono (by decide)) (by rfl) T.m_need_sound T.F_need_sound.kp T.B_need_sound .nil pass0 (pa_cons (pv 0) (pa_cons (pv 1) pa_nil))))
      (pss_one (ps_ret (pe_call (ok_how_many_orders T) (hr.mono (by decide)) (by rfl) T.m_how_many_orders T.F_how_many_orders.kp T.B_how_many_orders .nil pass0 (pa_cons (pv 0) (pa_cons (pe_op op_catN (pv 1) (pe_call (ok_end_marks T) (hr.mono (by decide)) (by rfl) T.m_end_marks T.F_end_marks.kp T.B_end_marks .nil pass0 (pa_cons (pv 0) (pa_cons (pv 1) pa_nil)))) pa_nil)))))), ?_⟩
    obtain ⟨pl, p10, _⟩ := hs.good.len d1 d5
    have em : (endMs d (endsF d ps)).length = d := ends_many hs.okl hs.nn
    refine ⟨_, rfl, _, rfl, d, dv, ps, rfl, d1, d5, hd, hs, fun H1 s1 => ?_⟩
    refine ⟨_, rfl, _, rfl, _, rfl, _, rfl, d, dv, ps, rfl, d1, d5, hd.mono s1, hs, by omega, fun l2 H2 s2 n2 h2 => ?_⟩
    refine ⟨_, _, (hd.mono s1).mono s2, h2, Nat.le_of_lt (small1000 (by rw [List.length_map, List.length_map]; omega)), fun l3 H3 n3 s3 h3 => ?_⟩
    rw [← List.map_append] at h3
    refine ⟨d, .ref l3, _, rfl, d1, d5, h3, mk_ok hs d1 d5, fun H4 s4 => kk H4 (((s1.trans s2).trans s3).trans s4)⟩
theorem ok_gathered : FnOk P w K mg base CX0 1 T.f_gathered T.d_gathered ["things", "pairs"] (spGath K) := by
  refine T.F_gathered.ok sc_gathered (fun vs H Q E h => ?_) (fun cdv A outer s H vs Q E hr h => ?_)
  · obtain ⟨_, _, _, _, rfl, _⟩ := h
    rfl
  · obtain ⟨ta, pw, d, ps, rfl, hta, hpv, d5, hok, kk⟩ := h
    refine ⟨_, (pss_cons (ps_set (i := 2) sc_gathered.nd rfl (by first | exact Or.inl rfl | exact Or.inr rfl) pe_dnewK)
      (pss_cons (ps_for PassesOwn.never rfl (pi_list (pv 0)) (pg_name (i := 3) sc_gathered.nd rfl (by first | exact Or.inl rfl | exact Or.inr rfl)) (pss_one (ps_dput (hu_of hr) (pv 2) (pv 3) (pv 3) rfl)))
      (pss_cons (ps_for PassesOwn.never rfl (pi_list (pv 1)) (pg_tup rfl (pgs_cons (pg_name (i := 4) sc_gathered.nd rfl (by first | exact Or.inl rfl | exact Or.inr rfl)) (pgs_cons (pg_name (i := 5) sc_gathered.nd rfl (by first | exact Or.inl rfl | exact Or.inr rfl)) pgs_nil))) (pss_cons (ps_set (i := 6) sc_gathered.nd rfl (by first | exact Or.inl rfl | exact Or.inr rfl) (pe_dget (hu_of hr) (pv 2) (pv 4) (fun _ _ => rfl)))
      (pss_cons (ps_set (i := 7) sc_gathered.nd rfl (by first | exact Or.inl rfl | exact Or.inr rfl) (pe_dget (hu_of hr) (pv 2) (pv 5) (fun _ _ => rfl)))
      (pss_one (ps_for PassesOwn.never rfl (pi_list (pv 0)) (pg_name (i := 3) sc_gathered.nd rfl (by first | exact Or.inl rfl | exact Or.inr rfl)) (pss_one (ps_if (pt_cmpR op_eq (pe_dget (hu_of hr) (pv 2) (pv 3) (fun _ _ => rfl)) (pv 7) (nomark _)) (pss_one (ps_dput (hu_of hr) (pv 2) (pv 3) (pv 6) rfl)) pss_nil)))))))
      (pss_one (ps_ret (pv 2)))))), ?_⟩
    obtain ⟨pa, pvs, rfl, hpa, hpi⟩ := of_pts hpv
    have plen : pvs.length = ps.length := by rw [hpi.length, List.length_map]
    intro st nst
    have tst : ta ≠ st := fun z => by rw [z, nst] at hta; cases hta
    have rlen : (rngL 1 d).length = d := by unfold rngL; simp
    refine ⟨_, rfl, ta, rfl, ⟨_, SqL.of (by rw [upd_ne tst]; exact hta)⟩, for_list (xs := rngL 1 d) (fun i σ H2 => (∃ v3 v4 v5 v6 v7, σ = [some (.ref ta), some (.ref pa), some (.ref st), v3, v4, v5, v6, v7]) ∧ Same H H2 ∧ H2 st = some (.dK (tabL i fun t => 1 + (t : Int))))
      ⟨⟨none, none, none, none, none, rfl⟩, Same.new nst, upd_same⟩ (fun i σ H2 _ h => SqL.of (h.2.1 _ _ hta)) ?_ ?_⟩
    · rintro i x σ H2 hi ⟨⟨v3, v4, v5, v6, v7, rfl⟩, s2, hst⟩
      obtain ⟨hid, rfl⟩ := rng_get hi
      have dp := DPut.k (k := Sum.inl (1 + (i : Int))) (v := .int (1 + (i : Int))) hst (small1000 (by rw [tab_len]; omega))
      rw [put_next (L := fun t => 1 + (t : Int)) i] at dp
      exact ⟨_, rfl, _, rfl, _, rfl, st, _, rfl, dp, ⟨_, _, _, _, _, rfl⟩, s2.put nst, upd_same⟩
    · rintro σ H2 ⟨⟨v3, v4, v5, v6, v7, rfl⟩, s2, hst⟩
      rw [rlen] at hst
      refine ⟨_, rfl, pa, rfl, ⟨_, SqL.of (s2 _ _ hpa)⟩, for_list (xs := pvs) (fun i σ H3 => (∃ v3 v4 v5 v6 v7, σ = [some (.ref ta), some (.ref pa), some (.ref st), v3, v4, v5, v6, v7]) ∧ Same H H3 ∧ H3 st = some (.dK (tabL d ((ps.take i).foldl join1 fun t => 1 + (t : Int)))))
        ⟨⟨_, _, _, _, _, rfl⟩, s2, hst⟩ (fun i σ H3 _ h => SqL.of (h.2.1 _ _ hpa)) ?_ ?_⟩
      · rintro i x σ H3 hi ⟨⟨v3, v4, v5, v6, v7, rfl⟩, s3, hst3⟩
        obtain ⟨dd, hdd, hy⟩ := hpi.of_get hi
        rw [List.getElem?_map] at hdd
        obtain ⟨p, hp', rfl⟩ := Option.map_eq_some_iff.mp hdd
        obtain ⟨t, rfl, hta'⟩ := of_pt hy
        obtain ⟨o1, o2, o3, o4⟩ := hok p (List.mem_of_getElem? hp')
        have en : (ps.take (i + 1)).foldl join1 (fun t => 1 + (t : Int)) = join1 ((ps.take i).foldl join1 fun t => 1 + (t : Int)) p := by
          rw [List.take_add_one, hp', List.foldl_append]; rfl
        rw [en]
        generalize (ps.take i).foldl join1 (fun t => 1 + (t : Int)) = L at hst3 ⊢
        obtain ⟨x, y⟩ := p
        dsimp only at o1 o2 o3 o4 hta'
        obtain ⟨m, rfl, hm, em⟩ := nat_of o1 o2
        obtain ⟨n, rfl, hn, en⟩ := nat_of o3 o4
        refine ⟨t, _, rfl, SqT.of (s3 _ _ hta'), rfl, _, _, rfl, _, _, rfl, rfl, ?_⟩
        refine ⟨_, rfl, _, rfl, st, _, rfl, dget_tab hst3 hm, _, rfl, _, rfl, st, _, rfl, dget_tab hst3 hn, ?_⟩
        refine ⟨_, rfl, ta, rfl, ⟨_, SqL.of (s3 _ _ hta)⟩, for_list (xs := rngL 1 d) (fun j σ H4 => (∃ v3, σ = [some (.ref ta), some (.ref pa), some (.ref st), v3, some (.int (1 + (m : Int))), some (.int (1 + (n : Int))), some (.int (L m)), some (.int (L n))]) ∧ Same H H4 ∧ H4 st = some (.dK (tabL d fun t => if t < j ∧ L t = L n then L m else L t)))
          ⟨⟨_, rfl⟩, s3, by rw [hst3]; exact dk_congr fun t _ => by rw [if_neg (by omega)]⟩ (fun i σ H4 _ h => SqL.of (h.2.1 _ _ hta)) ?_ ?_⟩
        · rintro j x σ H4 hj ⟨⟨v3, rfl⟩, s4, hst4⟩
          obtain ⟨hjd, rfl⟩ := rng_get hj
          refine ⟨_, rfl, _, rfl, st, _, rfl, dget_tab hst4 hjd, _, rfl, rfl, _, rfl, ?_⟩
          rw [if_neg (show ¬ (j < j ∧ L j = L n) by omega)]
          refine iteE (fun e => ?_) (fun e => ?_)
          · refine ⟨_, rfl, _, rfl, _, rfl, st, _, rfl, dput_tab hst4 hjd d5, ⟨_, rfl⟩, s4.put nst, ?_⟩
            rw [upd_same]
            refine dk_congr fun t _ => ?_
            by_cases c : t = j
            · subst c
              rw [if_pos rfl, if_pos ⟨by omega, e⟩]
            · rw [if_neg c]
              by_cases c2 : t < j ∧ L t = L n
              · rw [if_pos c2, if_pos ⟨by omega, c2.2⟩]
              · rw [if_neg c2, if_neg (fun z => c2 ⟨by omega, z.2⟩)]
          · refine ⟨⟨_, rfl⟩, s4, ?_⟩
            rw [hst4]
            refine dk_congr fun t _ => ?_
            by_cases c2 : t < j ∧ L t = L n
            · rw [if_pos c2, if_pos ⟨by omega, c2.2⟩]
            · rw [if_neg c2, if_neg (fun z => c2 ⟨by
                rcases Nat.lt_or_ge t j with q | q
                · exact q
                · exact absurd (by rw [show j = t by omega]; exact z.2) e, z.2⟩)]
        · rintro σ H4 ⟨⟨v3, rfl⟩, s4, hst4⟩
          rw [rlen] at hst4
          refine ⟨⟨_, _, _, _, _, rfl⟩, s4, ?_⟩
          rw [hst4]
          refine dk_congr fun t ht => ?_
          unfold join1
          dsimp only
          rw [em, en]
          by_cases c : L t = L n
          · rw [if_pos ⟨ht, c⟩, if_pos c]
          · rw [if_neg (fun z => c z.2), if_neg c]
      · rintro σ H3 ⟨⟨v3, v4, v5, v6, v7, rfl⟩, s3, hst3⟩
        rw [plen, List.take_length] at hst3
        exact ⟨_, rfl, kk st H3 s3 nst hst3⟩
theorem ok_how_many_sets : FnOk P w K mg base CX0 2 T.f_how_many_sets T.d_how_many_sets ["things", "pairs"] (spMany K) := by
  refine T.F_how_many_sets.ok sc_how_many_sets (fun vs H Q E h => ?_) (fun cdv A outer s H vs Q E hr h => ?_)
  · obtain ⟨_, _, _, _, rfl, _⟩ := h
    rfl
  · obtain ⟨ta, pw, d, ps, rfl, hta, hpv, d5, hok, kk⟩ := h
    refine ⟨_, (pss_cons (ps_set (i := 2) sc_how_many_sets.nd rfl (by first | exact Or.inl rfl | exact Or.inr rfl) (pe_call (ok_gathered T) (hr.mono (by decide)) (by rfl) T.m_gathered T.F_gathered.kp T.B_gathered .nil pass0 (pa_cons (pv 0) (pa_cons (pv 1) pa_nil))))
      (pss_one (ps_ret (pe_callB call_len_seq (by rfl) T.n_len boot_len (pa_cons (pe_compB (XN := ["things", "pairs", "standing"]) (sc := defScope s_how_many_sets) (N := ["thing", "standing"]) (own := 1) (js := [2]) rfl (by decide +kernel) rfl rfl (pi_list (pv 0)) (fun _ _ _ _ => (pg_name (i := 0) (show List.Nodup (["thing", "standing"] : List Str) by decide +kernel) rfl (Or.inl rfl) (.inr rfl))) (ownG_name (by decide)) (fun _ _ _ _ => (pifs_one (pt_cmpR op_eq (pe_dget (hu_of hr) (pv 1) (pv 0) (fun _ _ => rfl)) (pv 0) (nomark _)))) (fun _ _ _ _ => (pv 0))) pa_nil))))), ?_⟩
    refine ⟨_, rfl, _, rfl, ta, pw, d, ps, rfl, hta, hpv, d5, hok, fun st H2 s2 nst hst => ?_⟩
    have rlen : (rngL 1 d).length = d := by unfold rngL; simp
    refine ⟨_, rfl, ta, rfl, ⟨_, SqL.of (s2 _ _ hta)⟩, fun acc na => ?_⟩
    refine comp_list (xs := rngL 1 d) (own := 1) (js := [2]) (fun i H3 => Same H2 H3 ∧ H3 acc = some (.lst (((List.range i).filter fun t => decide (labels ps t = 1 + (t : Int))).map fun t : Nat => V.int (1 + (t : Int))))) ⟨Same.new na, upd_same⟩ (fun i H3 _ h => SqL.of (h.1 _ _ (s2 _ _ hta))) ?_ ?_ mono_name ?_ ?_
    · rintro i x H3 hi ⟨s3, hacc⟩
      obtain ⟨hid, rfl⟩ := rng_get hi
      refine ⟨_, rfl, _, rfl, st, _, rfl, dget_tab (s3 _ _ hst) hid, _, rfl, rfl, _, rfl, ?_⟩
      refine iteE (fun e => ?_) (fun e => ?_)
      · refine ⟨_, rfl, acc, _, _, rfl, rfl, hacc, small1000 ?_, s3.put na, ?_⟩
        · rw [List.length_map]
          have := List.length_filter_le (fun t : Nat => decide (labels ps t = 1 + (t : Int))) (List.range i)
          rw [List.length_range] at this
          omega
        · rw [upd_same, List.range_succ, List.filter_append, List.map_append]
          simp [List.filter_cons, e]
      · refine ⟨s3, ?_⟩
        rw [hacc, List.range_succ, List.filter_append, List.map_append]
        simp [List.filter_cons, e]
    · rintro H3 ⟨s3, hacc⟩
      rw [rlen] at hacc
      refine ⟨acc, _, rfl, .inl (SqL.of hacc), ?_⟩
      rw [List.length_map]
      exact kk H3 (s2.trans s3)
    · rintro σ H R R' k ⟨v1, e1, v2, e2, a, v, e3, g, v4, e4, e5, b, e6, h⟩
      exact ⟨v1, e1, v2, e2, a, v, e3, g, v4, e4, e5, b, e6, k _ _ h⟩
    · rintro σ H R R' k ⟨v1, e1, h⟩
      exact ⟨v1, e1, k _ _ h⟩
theorem ok_parts : FnOk P w K mg base CX0 4 T.f_parts T.d_parts ["d", "drawing"] spParts := by
  refine T.F_parts.ok sc_parts (fun vs H Q E h => ?_) (fun cdv A outer s H vs Q E hr h => ?_)
  · obtain ⟨_, _, _, rfl, _⟩ := h
    rfl
  · obtain ⟨d, dv, ps, rfl, hd, d1, d5, hl, hok, kk⟩ := h
    refine ⟨_, (pss_cons (ps_expr (pe_call (ok_need_degree T) (hr.mono (by decide)) (by rfl) T.m_need_degree T.F_need_degree.kp T.B_need_degree .nil pass0 (pa_cons (pv 0) pa_nil)))
      (pss_one (ps_ret (pe_call (ok_how_many_sets T) (hr.mono (by decide)) (by rfl) T.m_how_many_sets T.F_how_many_sets.kp T.B_how_many_sets .nil pass0 (pa_cons (pe_listrng rfl (by rfl) T.n_list (by rfl) T.n_range (pa_cons pe_int (pa_cons (pe_op op_add (pv 0) pe_int) pa_nil))) (pa_cons (pe_compB (XN := ["d", "drawing"]) (sc := defScope s_parts) (N := ["lift"]) (own := 1) (js := []) rfl (by decide +kernel) rfl rfl (pi_list (pv 1)) (fun _ _ _ _ => (pg_name (i := 0) (show List.Nodup (["lift"] : List Str) by decide +kernel) rfl (Or.inl rfl) (.inr rfl))) (ownG_name (by decide)) (fun _ _ _ _ => pifs_nil) (fun _ _ _ _ => (pe_tupN (pa_cons (pe_ix ix_tupN (pv 0) pe_int (fun _ _ => rfl)) (pa_cons (pe_ix ix_tupN (pv 0) pe_int (fun _ _ => rfl)) pa_nil))))) pa_nil)))))), ?_⟩
    refine ⟨_, rfl, (d : Int), rfl, by omega, by omega, ?_⟩
    obtain ⟨da, dvs, rfl, hda, hdi⟩ := of_l hd
    have dlen : dvs.length = ps.length := by rw [hdi.length, List.length_map]
    refine ⟨_, rfl, _, _, rfl, rfl, 1, _, rfl, ⟨by omega, by omega, by omega, by omega⟩, by omega, fun ta nta => ?_⟩
    have e1 : ((d : Int) + 1 - 1).toNat = d := by omega
    rw [e1]
    have s1 : Same H (upd H ta (.lst (rngL 1 d))) := Same.new nta
    have hta : upd H ta (.lst (rngL 1 d)) ta = some (.lst (rngL 1 d)) := upd_same
    generalize upd H ta (.lst (rngL 1 d)) = H1 at s1 hta ⊢
    refine ⟨_, rfl, da, rfl, ⟨_, SqL.of (s1 _ _ hda)⟩, fun acc na => ?_⟩
    refine comp_list (xs := dvs) (own := 1) (js := []) (fun i H3 => Same H1 H3 ∧ Grow H3 acc (((ps.take i).map fun p : Lf => ((p.1, p.2.1) : Pt)).map pt)) ⟨Same.new na, Grow.start⟩ (fun i H3 _ h => SqL.of (h.1 _ _ (s1 _ _ hda))) ?_ ?_ mono_name mono_yes ?_
    · rintro i x H3 hi ⟨s3, vs, hacc, hvs⟩
      obtain ⟨dd, hdd, hy⟩ := hdi.of_get hi
      rw [List.getElem?_map] at hdd
      obtain ⟨p, hp', rfl⟩ := Option.map_eq_some_iff.mp hdd
      have hil : i < ps.length := (List.getElem?_eq_some_iff.mp hp').1
      have hlf : Is H3 (lf p) x := hy.mono (s1.trans s3)
      refine yesN ?_
      refine ⟨_, rfl, _, 0, _, hlf, rfl, rfl, fun u hu => ⟨_, rfl, _, 1, _, hlf, rfl, rfl, fun u' hu' => ⟨(by show 2 ≤ sizeLine; decide), fun q H4 nq s4 hq => ?_⟩⟩⟩
      rw [of_i hu, of_i hu'] at hq
      refine ⟨acc, vs, _, rfl, rfl, s4 _ _ hacc, small1000 (by rw [hvs.length]; simp; omega), (s3.trans s4).put na, ?_⟩
      rw [List.take_add_one, hp', List.map_append, List.map_append]
      exact grow_add (hvs.mono (hid_mono s4)) (is_pt (p := (p.1, p.2.1)) (by rw [hid_at (ne_of_none hacc nq).symm]; exact hq))
    · rintro H3 ⟨s3, g⟩
      rw [dlen, List.take_length] at g
      exact ⟨ta, _, d, pairs ps, rfl, s3 _ _ hta, g.is, d5, pairs_ok hok, fun H4 s4 => kk H4 ((s1.trans s3).trans s4)⟩
    · rintro σ H R R' k ⟨v1, e1, xs, i, d, h1, e2, e3, h⟩
      refine ⟨v1, e1, xs, i, d, h1, e2, e3, fun u hu => ?_⟩
      obtain ⟨v1, e1, xs, i, d, h1, e2, e3, h⟩ := h u hu
      refine ⟨v1, e1, xs, i, d, h1, e2, e3, fun u hu => ?_⟩
      obtain ⟨z, h⟩ := h u hu
      exact ⟨z, fun p H2 np s2 hp => k _ _ (h p H2 np s2 hp)⟩
theorem ok_worth : FnOk P w K mg base CX0 1 T.f_worth T.d_worth ["drawing"] (spWorth K) := by
  refine T.F_worth.ok sc_worth (fun vs H Q E h => ?_) (fun cdv A outer s H vs Q E hr h => ?_)
  · obtain ⟨_, _, _, rfl, _⟩ := h
    rfl
  · obtain ⟨dv, ps, d, rfl, hd, hok, kk⟩ := h
    refine ⟨_, (pss_cons (ps_set (i := 1) sc_worth.nd rfl (by first | exact Or.inl rfl | exact Or.inr rfl) pe_int)
      (pss_cons (ps_for PassesOwn.never rfl (pi_list (pv 0)) (pg_name (i := 2) sc_worth.nd rfl (by first | exact Or.inl rfl | exact Or.inr rfl)) (pss_one (ps_aug (i := 1) sc_worth.nd rfl (by first | exact Or.inl rfl | exact Or.inr rfl) (pe_op op_pow (pe_ix ix_tupN (pv 2) pe_int (fun _ _ => rfl)) pe_int) ip_mult)))
      (pss_one (ps_ret (pv 1))))), ?_⟩
    obtain ⟨da, dvs, rfl, hda, hdi⟩ := of_l hd
    have dlen : dvs.length = ps.length := by rw [hdi.length, List.length_map]
    refine ⟨_, rfl, da, rfl, ⟨_, SqL.of hda⟩, for_list (xs := dvs) (fun i σ H2 => (∃ v2, σ = [some (.ref da), some (.int (worthF (ps.take i))), v2]) ∧ H2 = H) ⟨⟨none, rfl⟩, rfl⟩ (fun i σ H2 _ h => by rw [h.2]; exact SqL.of hda) ?_ ?_⟩
    · rintro i x σ H2 hi ⟨⟨v2, rfl⟩, rfl⟩
      obtain ⟨dd, hdd, hy⟩ := hdi.of_get hi
      rw [List.getElem?_map] at hdd
      obtain ⟨p, hp', rfl⟩ := Option.map_eq_some_iff.mp hdd
      obtain ⟨_, w1, w2⟩ := hok p (List.mem_of_getElem? hp')
      have b1 : p.2.2.natAbs < 2 ^ 64 := by omega
      have b2 : p.2.2 ^ (2 : Int).toNat < 2 ^ 64 := by
        show p.2.2 ^ 2 < 2 ^ 64
        have : p.2.2 * p.2.2 ≤ 2 ^ 20 * 2 ^ 20 := Int.mul_le_mul w2 w2 (by omega) (by decide)
        rw [Int.pow_succ, Int.pow_succ, Int.pow_zero, Int.one_mul]
        omega
      have b3 : -(2 ^ 64) < p.2.2 ^ (2 : Int).toNat := by
        show _ < p.2.2 ^ 2
        have h0 : 0 ≤ p.2.2 * p.2.2 := Int.mul_nonneg (by omega) (by omega)
        have h1 : p.2.2 ^ 2 = p.2.2 * p.2.2 := by rw [Int.pow_succ, Int.pow_succ, Int.pow_zero, Int.one_mul]
        rw [h1]
        omega
      refine ⟨_, rfl, _, rfl, _, 2, _, hy, rfl, rfl, fun u hu => ?_⟩
      rw [of_i hu]
      refine ⟨_, _, rfl, rfl, ⟨by decide, by decide, b1⟩, _, _, rfl, rfl, .inr ⟨b3, b2⟩, ⟨some x, ?_⟩, rfl⟩
      rw [List.take_add_one, hp']
      unfold worthF
      rw [List.foldl_append]
      rfl
    · rintro σ H2 ⟨⟨v2, rfl⟩, rfl⟩
      rw [dlen, List.take_length]
      exact ⟨_, rfl, kk⟩
theorem ok_count_by_floors : FnOk P w K mg base (CX1 P w) 12 T.f_count_by_floors T.d_count_by_floors ["d", "k"] (spCnt T.c_NoBound) := by
  refine T.F_count_by_floors.okx sc_count_by_floors (fun vs H Q E h => ?_) (fun cdv A outer s H vs Q E hr h hR hp => ?_)
  · obtain ⟨_, _, rfl, _⟩ := h
    rfl
  · obtain ⟨v, u, rfl, ht, hu, kk, ke⟩ := h
    refine ⟨_, (pss_cons (ps_expr (pe_call (ok_need_wide T) (hr.mono (by decide)) (by rfl) T.m_need_wide T.F_need_wide.kp T.B_need_wide .nil hp (pa_cons (pv 0) (pa_cons (pv 1) pa_nil))))
      (pss_one (ps_ret (pe_callB (call_sum rfl) (by rfl) T.n_sum boot_sum (pa_cons (pe_compB (XN := ["d", "k"]) (sc := defScope s_count_by_floors) (N := ["drawing", "d"]) (own := 1) (js := [0]) rfl (by decide +kernel) rfl rfl (pi_list (pe_call (ok_drawings T) (hr.mono (by decide)) (by rfl) T.m_drawings T.F_drawings.kp T.B_drawings .nil hp (pa_cons (pv 0) (pa_cons (pv 1) pa_nil)))) (fun _ _ _ _ => (pg_name (i := 0) (show List.Nodup (["drawing", "d"] : List Str) by decide +kernel) rfl (Or.inl rfl) (.inr rfl))) (ownG_name (by decide)) (fun _ _ _ _ => pifs_nil) (fun _ _ _ _ => (pe_op op_mul (pe_call (ok_worth T) (hr.mono (by decide)) (by rfl) T.m_worth T.F_worth.kp T.B_worth .nil pass0 (pa_cons (pv 0) pa_nil)) (pe_call (ok_how_many T) (hr.mono (by decide)) (by rfl) T.m_how_many T.F_how_many.kp T.B_how_many .nil pass0 (pa_cons (pv 1) (pa_cons (pv 0) pa_nil)))))) pa_nil))))), ?_⟩
    refine ⟨_, rfl, _, rfl, v, u, rfl, ht, hu, fun ⟨d, k, e1, e2, hW⟩ => ?_, ke⟩
    subst e1 e2
    obtain ⟨hW4, kk⟩ := kk d k rfl rfl hW
    clear ke
    obtain ⟨_, g4, g5⟩ := bits34 hW4
    have d15 : 1 ≤ d ∧ d ≤ 5 := by unfold Wide at hW; omega
    refine ⟨_, rfl, _, rfl, _, _, rfl, ht, hu, fun d' k' e1 e2 _ => ?_, fun hn => absurd ⟨d, k, rfl, rfl, hW⟩ hn⟩
    obtain rfl : d = d' := by have := V.int.inj e1; omega
    obtain rfl : k = k' := by have := V.int.inj e2; omega
    refine ⟨hW4, fun L l H1 pL s1 nl hl => ?_⟩
    have g4 : ∀ x ∈ L, one34 d x = true := fun x hx => g4 x (pL.mem_iff.mp hx)
    have g5 : L.length ≤ 1000 := by have := pL.length_eq; omega
    clear pL
    have hl := hl.mono nw_same
    obtain ⟨_, lvs, e, hl1, hli⟩ := of_l hl
    cases e
    have llen : lvs.length = L.length := by rw [hli.length, List.length_map]
    refine ⟨l, rfl, ⟨_, SqL.of hl1⟩, fun acc na => ?_⟩
    refine comp_list (xs := lvs) (own := 1) (js := [0]) (fun i H3 => Same H1 H3 ∧ H3 acc = some (.lst (((L.take i).map (numF d)).map V.int))) ⟨Same.new na, upd_same⟩ (fun i H3 _ h => SqL.of (h.1 _ _ hl1)) ?_ ?_ mono_name mono_yes ?_
    · rintro i y H3 hi ⟨s3, hacc⟩
      obtain ⟨dd, hdd, hy⟩ := hli.of_get hi
      rw [List.getElem?_map] at hdd
      obtain ⟨x, hx, rfl⟩ := Option.map_eq_some_iff.mp hdd
      have il : i < L.length := (List.getElem?_eq_some_iff.mp hx).1
      obtain ⟨o1, o2, o3, o4, o5⟩ := one34_iff (g4 x (List.mem_of_getElem? hx))
      have hy3 := hy.mono s3
      refine yesN ?_
      refine ⟨_, rfl, y, x, d, rfl, hy3, o2, _, rfl, _, rfl, d, y, x, rfl, d15.1, d15.2, hy3, o1, fun H4 s4 => ?_⟩
      refine ⟨_, _, rfl, rfl, .inl ⟨by omega, by omega⟩, acc, _, _, rfl, rfl, s4 _ _ hacc, small1000 (by rw [List.length_map, List.length_map, List.length_take]; omega), (s3.trans s4).put na, ?_⟩
      rw [upd_same, List.take_add_one, hx, List.map_append, List.map_append]
      rfl
    · rintro H3 ⟨s3, hacc⟩
      rw [llen, List.take_length] at hacc
      exact ⟨acc, _, rfl, SqL.of hacc, kk _ H3 (s1.trans s3)⟩
    · rintro σ H R R' k' ⟨v1, e1, dv, ps, d', e2, i1, o1, v2, e3, v3, e4, n, dv2, ps2, e5, a1, a2, i2, sn, kk2⟩
      exact ⟨v1, e1, dv, ps, d', e2, i1, o1, v2, e3, v3, e4, n, dv2, ps2, e5, a1, a2, i2, sn, fun H' s' => let ⟨i, j, x1, x2, x3, x4⟩ := kk2 H' s'; ⟨i, j, x1, x2, x3, k' _ _ x4⟩⟩
theorem ok_whole_by_floors : FnOk P w K mg base (CX1 P w) 12 T.f_whole_by_floors T.d_whole_by_floors ["d", "k"] (spCnt T.c_NoBound) := by
  refine T.F_whole_by_floors.okx sc_whole_by_floors (fun vs H Q E h => ?_) (fun cdv A outer s H vs Q E hr h hR hp => ?_)
  · obtain ⟨_, _, rfl, _⟩ := h
    rfl
  · obtain ⟨v, u, rfl, ht, hu, kk, ke⟩ := h
    refine ⟨_, (pss_cons (ps_expr (pe_call (ok_need_wide T) (hr.mono (by decide)) (by rfl) T.m_need_wide T.F_need_wide.kp T.B_need_wide .nil hp (pa_cons (pv 0) (pa_cons (pv 1) pa_nil))))
      (pss_cons (ps_setcB (i := 2) sc_whole_by_floors.nd rfl (by first | exact Or.inl rfl | exact Or.inr rfl) (.inl rfl) (XN := ["d", "k", "whole"]) (sc := defScope s_whole_by_floors) (N := ["drawing", "d"]) (own := 1) (js := [0]) rfl (by decide +kernel) rfl rfl (pi_list (pe_call (ok_drawings T) (hr.mono (by decide)) (by rfl) T.m_drawings T.F_drawings.kp T.B_drawings .nil hp (pa_cons (pv 0) (pa_cons (pv 1) pa_nil)))) (fun _ _ _ _ => (pg_name (i := 0) (show List.Nodup (["drawing", "d"] : List Str) by decide +kernel) rfl (Or.inl rfl) (.inr rfl))) (ownG_name (by decide)) (fun _ _ _ _ => (pifs_one (pt_cmpR op_eq (pe_call (ok_parts T) (hr.mono (by decide)) (by rfl) T.m_parts T.F_parts.kp T.B_parts .nil pass0 (pa_cons (pv 1) (pa_cons (pv 0) pa_nil))) pe_int (nomark _)))) (fun _ _ _ _ => (pv 0)))
      (pss_one (ps_ret (pe_callB (call_sum rfl) (by rfl) T.n_sum boot_sum (pa_cons (pe_compB (XN := ["d", "k", "whole"]) (sc := defScope s_whole_by_floors) (N := ["drawing", "d"]) (own := 1) (js := [0]) rfl (by decide +kernel) rfl rfl (pi_list (pv 2)) (fun _ _ _ _ => (pg_name (i := 0) (show List.Nodup (["drawing", "d"] : List Str) by decide +kernel) rfl (Or.inl rfl) (.inr rfl))) (ownG_name (by decide)) (fun _ _ _ _ => pifs_nil) (fun _ _ _ _ => (pe_op op_mul (pe_call (ok_worth T) (hr.mono (by decide)) (by rfl) T.m_worth T.F_worth.kp T.B_worth .nil pass0 (pa_cons (pv 0) pa_nil)) (pe_call (ok_how_many T) (hr.mono (by decide)) (by rfl) T.m_how_many T.F_how_many.kp T.B_how_many .nil pass0 (pa_cons (pv 1) (pa_cons (pv 0) pa_nil)))))) pa_nil)))))), ?_⟩
    refine ⟨_, rfl, _, rfl, v, u, rfl, ht, hu, fun ⟨d, k, e1, e2, hW⟩ => ?_, ke⟩
    subst e1 e2
    obtain ⟨hW4, kk⟩ := kk d k rfl rfl hW
    clear ke
    obtain ⟨_, g4, g5⟩ := bits34 hW4
    have d15 : 1 ≤ d ∧ d ≤ 5 := by unfold Wide at hW; omega
    refine ⟨_, rfl, _, rfl, _, _, rfl, ht, hu, fun d' k' e1 e2 _ => ?_, fun hn => absurd ⟨d, k, rfl, rfl, hW⟩ hn⟩
    obtain rfl : d = d' := by have := V.int.inj e1; omega
    obtain rfl : k = k' := by have := V.int.inj e2; omega
    refine ⟨hW4, fun L l H1 pL s1 nl hl => ?_⟩
    have g4 : ∀ x ∈ L, one34 d x = true := fun x hx => g4 x (pL.mem_iff.mp hx)
    have g5 : L.length ≤ 1000 := by have := pL.length_eq; omega
    clear pL
    have hl := hl.mono nw_same
    obtain ⟨_, lvs, e, hl1, hli⟩ := of_l hl
    cases e
    have llen : lvs.length = L.length := by rw [hli.length, List.length_map]
    refine ⟨l, rfl, ⟨_, SqL.of hl1⟩, fun acc na => ?_⟩
    refine comp_list (xs := lvs) (own := 1) (js := [0]) (fun i H3 => Same H1 H3 ∧ ∃ vs, H3 acc = some (.lst vs) ∧ Iss H1 (((L.take i).filter (isW d)).map lfs) vs) ⟨Same.new na, [], upd_same, iss_nil⟩ (fun i H3 _ h => SqL.of (h.1 _ _ hl1)) ?_ ?_ mono_name ?_ ?_
    · rintro i y H3 hi ⟨s3, vs, hacc, hvs⟩
      obtain ⟨dd, hdd, hy⟩ := hli.of_get hi
      rw [List.getElem?_map] at hdd
      obtain ⟨x, hx, rfl⟩ := Option.map_eq_some_iff.mp hdd
      have il : i < L.length := (List.getElem?_eq_some_iff.mp hx).1
      obtain ⟨o1, o2, o3, _, _⟩ := one34_iff (g4 x (List.mem_of_getElem? hx))
      have hy3 := hy.mono s3
      have nx : (L.take (i + 1)).filter (isW d) = (L.take i).filter (isW d) ++ if isW d x = true then [x] else [] := by
        rw [List.take_add_one, hx, List.filter_append]
        simp only [Option.toList_some, List.filter_cons, List.filter_nil]
      refine ⟨_, rfl, _, rfl, d, y, x, rfl, hy3, d15.1, d15.2, o3, o1.okl, fun H4 s4 => ?_⟩
      rw [nx]
      refine ⟨rfl, _, rfl, iteE (fun e => ?_) (fun e => ?_)⟩
      · have e' : isW d x = true := by unfold isW parN; exact decide_eq_true (by omega)
        have vl : vs.length ≤ 1000 := by
          rw [hvs.length, List.length_map]
          have := List.length_filter_le (isW d) (L.take i)
          rw [List.length_take] at this
          omega
        refine ⟨_, rfl, acc, vs, _, rfl, rfl, s4 _ _ hacc, small1000 vl, (s3.trans s4).put na, _, upd_same, ?_⟩
        rw [if_pos e', List.map_append]
        exact hvs.append (iss_cons hy iss_nil)
      · have e' : isW d x = false := by unfold isW parN; exact decide_eq_false (by omega)
        refine ⟨s3.trans s4, vs, s4 _ _ hacc, ?_⟩
        rw [e', if_neg Bool.false_ne_true, List.append_nil]
        exact hvs
    · rintro H3 ⟨s3, vs, hacc, hvs⟩
      rw [llen, List.take_length] at hvs
      have hin : ∀ x ∈ L.filter (isW d), x ∈ L := fun x hx => (List.mem_filter.mp hx).1
      have fl : (L.filter (isW d)).length ≤ 1000 := Nat.le_trans (List.length_filter_le _ _) g5
      generalize L.filter (isW d) = L at hvs hin fl
      have vlen : vs.length = L.length := by rw [hvs.length, List.length_map]
      refine ⟨_, rfl, acc, rfl, ⟨_, SqL.of hacc⟩, fun ac2 na2 => ?_⟩
      refine comp_list (xs := vs) (own := 1) (js := [0]) (fun i H4 => Same H3 H4 ∧ H4 ac2 = some (.lst (((L.take i).map (numF d)).map V.int))) ⟨Same.new na2, upd_same⟩ (fun i H4 _ h => SqL.of (h.1 _ _ hacc)) ?_ ?_ mono_name mono_yes ?_
      · rintro i y H4 hi ⟨s4, hac⟩
        obtain ⟨dd, hdd, hy⟩ := hvs.of_get hi
        rw [List.getElem?_map] at hdd
        obtain ⟨x, hx, rfl⟩ := Option.map_eq_some_iff.mp hdd
        have il : i < L.length := (List.getElem?_eq_some_iff.mp hx).1
        obtain ⟨o1, o2, o3, o4, o5⟩ := one34_iff (g4 x (hin x (List.mem_of_getElem? hx)))
        have hy4 := (hy.mono s3).mono s4
        refine yesN ?_
        refine ⟨_, rfl, y, x, d, rfl, hy4, o2, _, rfl, _, rfl, d, y, x, rfl, d15.1, d15.2, hy4, o1, fun H5 s5 => ?_⟩
        refine ⟨_, _, rfl, rfl, .inl ⟨by omega, by omega⟩, ac2, _, _, rfl, rfl, s5 _ _ hac, small1000 (by rw [List.length_map, List.length_map, List.length_take]; omega), (s4.trans s5).put na2, ?_⟩
        rw [upd_same, List.take_add_one, hx, List.map_append, List.map_append]
        rfl
      · rintro H4 ⟨s4, hac⟩
        rw [vlen, List.take_length] at hac
        exact ⟨ac2, _, rfl, SqL.of hac, kk _ H4 ((s1.trans s3).trans s4)⟩
      · rintro σ H R R' k' ⟨v1, e1, dv, ps, d', e2, i1, o1, v2, e3, v3, e4, n, dv2, ps2, e5, a1, a2, i2, sn, kk2⟩
        exact ⟨v1, e1, dv, ps, d', e2, i1, o1, v2, e3, v3, e4, n, dv2, ps2, e5, a1, a2, i2, sn, fun H' s' => let ⟨i, j, x1, x2, x3, x4⟩ := kk2 H' s'; ⟨i, j, x1, x2, x3, k' _ _ x4⟩⟩
    · rintro σ H R R' k' ⟨v1, e1, v2, e2, n, dv, ps, e3, i1, a1, a2, a3, a4, kk2⟩
      exact ⟨v1, e1, v2, e2, n, dv, ps, e3, i1, a1, a2, a3, a4, fun H' s' => let ⟨x1, b, x2, x3⟩ := kk2 H' s'; ⟨x1, b, x2, k' _ _ x3⟩⟩
    · rintro σ H R R' k' ⟨v1, e1, h⟩
      exact ⟨v1, e1, k' _ _ h⟩
theorem ok_paper : FnOk P w K mg base (CX1 P w) 12 T.f_paper T.d_paper ["d", "k"] (spPap T.c_NoBound) := by
  refine T.F_paper.okx sc_paper (fun vs H Q E h => ?_) (fun cdv A outer s H vs Q E hr h hR hp => ?_)
  · obtain ⟨_, _, rfl, _⟩ := h
    rfl
  · obtain ⟨v, u, rfl, ht, hu, hn, ke⟩ := h
    refine ⟨_, (pss_cons (ps_expr (pe_call (ok_need_wide T) (hr.mono (by decide)) (by rfl) T.m_need_wide T.F_need_wide.kp T.B_need_wide .nil hp (pa_cons (pv 0) (pa_cons (pv 1) pa_nil))))
      (pss_cons ps_never
      (pss_cons ps_never
      (pss_cons ps_never
      (pss_one ps_never))))), ?_⟩
    exact ⟨_, rfl, _, rfl, v, u, rfl, ht, hu, fun hw => absurd hw hn, fun _ => ke⟩
theorem ok__law_ask : FnOk P w K mg base (CX1 P w) 13 T.f__law_ask T.d__law_ask ["_law_what", "_law_d", "_law_k"] (spLAsk T.c_NoBound) := by
  refine T.F__law_ask.okx sc__law_ask (fun vs H Q E h => ?_) (fun cdv A outer s H vs Q E hr h hR hp => ?_)
  · obtain ⟨_, _, _, rfl, _⟩ := h
    rfl
  · obtain ⟨wt, v, u, rfl, ht, hu, kk, ke⟩ := h
    refine ⟨_, (pss_cons (ps_if (pt_cmpR op_eq (pv 0) pe_int (nomark _)) (pss_one (ps_ret (pe_call (ok_drawings T) (hr.mono (by decide)) (by rfl) T.m_drawings T.F_drawings.kp T.B_drawings .nil hp (pa_cons (pv 1) (pa_cons (pv 2) pa_nil))))) pss_nil)
      (pss_cons (ps_if (pt_cmpR op_eq (pv 0) pe_int (nomark _)) (pss_one (ps_ret (pe_call (ok_count_by_floors T) (hr.mono (by decide)) (by rfl) T.m_count_by_floors T.F_count_by_floors.kp T.B_count_by_floors .nil hp (pa_cons (pv 1) (pa_cons (pv 2) pa_nil))))) pss_nil)
      (pss_cons (ps_if (pt_cmpR op_eq (pv 0) pe_int (nomark _)) (pss_one (ps_ret (pe_call (ok_whole_by_floors T) (hr.mono (by decide)) (by rfl) T.m_whole_by_floors T.F_whole_by_floors.kp T.B_whole_by_floors .nil hp (pa_cons (pv 1) (pa_cons (pv 2) pa_nil))))) pss_nil)
      (pss_one (ps_ret (pe_call (ok_paper T) (hr.mono (by decide)) (by rfl) T.m_paper T.F_paper.kp T.B_paper .nil hp (pa_cons (pv 1) (pa_cons (pv 2) pa_nil)))))))), ?_⟩
    have same : ∀ {d k d' k' : Nat}, v = .int d → u = .int k → v = .int d' → u = .int k' → d = d' ∧ k = k' := fun a b c e => by
      rw [a] at c
      rw [b] at e
      have := V.int.inj c
      have := V.int.inj e
      omega
    refine ⟨_, rfl, rfl, _, rfl, iteE (fun e0 => ?_) (fun e0 => ?_)⟩
    · refine ⟨_, rfl, _, rfl, v, u, rfl, ht, hu, fun d k ed ek hW => ?_, ke⟩
      obtain ⟨_, _, d', k', ed', ek', h4, q0, _⟩ := kk ⟨d, k, ed, ek, hW⟩
      obtain ⟨rfl, rfl⟩ := same ed ek ed' ek'
      refine ⟨h4, fun L l H' pL s nl hl => ?_⟩
      obtain ⟨_, xs, e, hx, _⟩ := of_l (hl.mono nw_same)
      cases e
      exact q0 e0 l xs H' s hx
    refine ⟨_, rfl, rfl, _, rfl, iteE (fun e1 => ?_) (fun e1 => ?_)⟩
    · refine ⟨_, rfl, _, rfl, v, u, rfl, ht, hu, fun d k ed ek hW => ?_, ke⟩
      obtain ⟨_, _, d', k', ed', ek', h4, _, q1⟩ := kk ⟨d, k, ed, ek, hW⟩
      obtain ⟨rfl, rfl⟩ := same ed ek ed' ek'
      exact ⟨h4, q1 e0⟩
    refine ⟨_, rfl, rfl, _, rfl, iteE (fun e2 => ?_) (fun e2 => ?_)⟩
    · refine ⟨_, rfl, _, rfl, v, u, rfl, ht, hu, fun d k ed ek hW => ?_, ke⟩
      obtain ⟨_, _, d', k', ed', ek', h4, _, q1⟩ := kk ⟨d, k, ed, ek, hW⟩
      obtain ⟨rfl, rfl⟩ := same ed ek ed' ek'
      exact ⟨h4, q1 e0⟩
    have hn : ¬ Wd v u := fun hw => by
      obtain ⟨z0, z3, _⟩ := kk hw
      omega
    exact ⟨_, rfl, _, rfl, v, u, rfl, ht, hu, hn, ke hn⟩
theorem ok__law_refused : FnOk P w K mg base CX0 14 T.f__law_refused T.d__law_refused ["_law_what", "_law_d", "_law_k"] (spRefu K) := by
  refine T.F__law_refused.oky sc__law_refused (fun vs H Q E h => ?_) (fun cdv A outer s H vs Q E hr h hF => ?_)
  · obtain ⟨_, _, _, rfl, _⟩ := h
    rfl
  · obtain ⟨wt, v, u, rfl, ht, hu, hn, kk⟩ := h
    refine ⟨_, (pss_cons (ps_try (i := 3) hF rfl sc__law_refused.nd rfl (by first | exact Or.inl rfl | exact Or.inr rfl) rfl (by rfl) T.m_CurveError (fun E pn z hp => (pss_one (ps_expr (pe_call (ok__law_ask T) (hr.mono (by decide)) (by rfl) T.m__law_ask T.F__law_ask.kp T.B__law_ask .nil hp (pa_cons (pv 0) (pa_cons (pv 1) (pa_cons (pv 2) pa_nil))))))) (fun e => (pss_cons (ps_if (pt_val (pe_callB (call_isxsK (K := K) rfl) (by rfl) T.n_isinstance boot_isinstance (pa_cons (pv 3) (pa_cons (pe_tupN (pa_cons (pe_glob (v := .ref T.c_NoDrawing) (by rfl) T.m_NoDrawing (by rfl)) (pa_cons (pe_glob (v := .ref T.c_NoEnds) (by rfl) T.m_NoEnds (by rfl)) (pa_cons (pe_glob (v := .ref T.c_NoNumber) (by rfl) T.m_NoNumber (by rfl)) (pa_cons (pe_glob (v := .ref T.c_NoText) (by rfl) T.m_NoText (by rfl)) pa_nil))))) pa_nil)))) (pss_one (ps_ret pe_bl)) pss_nil)
      (pss_one (ps_ret (pe_and (pe_callB (call_isxK (K := K) rfl) (by rfl) T.n_isinstance boot_isinstance (pa_cons (pv 3) (pa_cons (pe_glob (v := .ref T.c_NoBound) (by rfl) T.m_NoBound (by rfl)) pa_nil))) (pe_one (pe_callB (call_isxK (K := K) rfl) (by rfl) T.n_isinstance boot_isinstance (pa_cons (pv 3) (pa_cons (pe_bltn (v := .ty "ValueError") (by rfl) T.n_ValueError PyProof.Rows.Boot.«ValueError» (by rfl)) pa_nil))))))))))
      (pss_one (ps_ret pe_bl))), ?_⟩
    refine ⟨fun C _ H' => C = .ref T.c_NoBound ∧ Same H H', ?_, fun C e H' ⟨eC, sH⟩ he => ?_⟩
    · exact ⟨_, rfl, _, rfl, _, rfl, wt, v, u, rfl, ht, hu, fun hw => absurd hw hn, fun _ => ⟨rfl, Same.refl _⟩⟩
    · cases eC
      refine ⟨T.e_NoBound_CurveError, _, rfl, (by show 4 ≤ sizeLine; decide), fun t H2 nt s2 ht2 => ?_⟩
      have hx := s2 _ _ (upd_same (H := H') (a := e) (o := excO T.c_NoBound e))
      refine ⟨e, _, t, _, _, false, rfl, hx, T.X_NoBound, ht2, rfl, T.ks_NoBound_0, false, rfl, iteF ?_⟩
      refine ⟨_, rfl, e, _, .ref T.c_NoBound, _, true, rfl, hx, T.X_NoBound, rfl, T.k_NoBound_NoBound, true, rfl, iteT ?_⟩
      exact ⟨_, rfl, e, _, .ty "ValueError", _, true, rfl, hx, T.X_NoBound, rfl, T.k_NoBound_ValueError, kk _ ((sH.trans (Same.new he)).trans s2)⟩
theorem ok__law_odd_pair : FnOk P w K mg base CX0 4 T.f__law_odd_pair T.d__law_odd_pair ["_law_bag_here", "_law_d", "_law_k"] (spOddP K) := by
  refine T.F__law_odd_pair.ok sc__law_odd_pair (fun vs H Q E h => ?_) (fun cdv A outer s H vs Q E hr h => ?_)
  · obtain ⟨_, _, _, _, _, rfl, _⟩ := h
    rfl
  · obtain ⟨b, far, st, d, k, rfl, hb, hf, hst, h4, kk⟩ := h
    refine ⟨_, (pss_cons (ps_set (i := 3) sc__law_odd_pair.nd rfl (by first | exact Or.inl rfl | exact Or.inr rfl) (pe_op op_add pe_int (pe_call (ok__law_digit T) (hr.mono (by decide)) (by rfl) T.m__law_digit T.F__law_digit.kp T.B__law_digit .nil pass0 (pa_cons (pv 0) (pa_cons (pe_op op_pow pe_int pe_int) pa_nil)))))
      (pss_cons (ps_set (i := 4) sc__law_odd_pair.nd rfl (by first | exact Or.inl rfl | exact Or.inr rfl) (pe_ix ix_list (pe_lstN (pa_cons (pe_op op_sub pe_int (pv 3)) (pa_cons (pv 3) (pa_cons (pe_un un_neg pe_int) (pa_cons pe_int (pa_cons pe_bl (pa_cons pe_non (pa_cons pe_str (pa_cons (pe_lstN (pa_cons pe_int pa_nil)) (pa_cons pe_bl pa_nil)))))))))) (pe_call (ok__law_digit T) (hr.mono (by decide)) (by rfl) T.m__law_digit T.F__law_digit.kp T.B__law_digit .nil pass0 (pa_cons (pv 0) (pa_cons pe_int pa_nil))) (fun _ _ => rfl)))
      (pss_cons (ps_set (i := 5) sc__law_odd_pair.nd rfl (by first | exact Or.inl rfl | exact Or.inr rfl) (pe_call (ok__law_digit T) (hr.mono (by decide)) (by rfl) T.m__law_digit T.F__law_digit.kp T.B__law_digit .nil pass0 (pa_cons (pv 0) (pa_cons pe_int pa_nil))))
      (pss_cons (ps_if (pt_cmpR op_eq (pv 5) pe_int (nomark _)) (pss_one (ps_ret (pe_tupN (pa_cons pe_int (pa_cons (pe_op op_add pe_int (pe_call (ok__law_digit T) (hr.mono (by decide)) (by rfl) T.m__law_digit T.F__law_digit.kp T.B__law_digit .nil pass0 (pa_cons (pv 0) (pa_cons pe_int pa_nil)))) pa_nil))))) pss_nil)
      (pss_cons (ps_if (pt_cmpR op_eq (pv 5) pe_int (nomark _)) (pss_one (ps_ret (pe_tupN (pa_cons (pv 4) (pa_cons (pv 2) pa_nil))))) pss_nil)
      (pss_cons (ps_if (pt_cmpR op_eq (pv 5) pe_int (nomark _)) (pss_one (ps_ret (pe_tupN (pa_cons (pv 1) (pa_cons (pv 4) pa_nil))))) pss_nil)
      (pss_one (ps_ret (pe_tupN (pa_cons (pe_ix ix_list (pe_lstN (pa_cons (pv 4) (pa_cons pe_int (pa_cons pe_int pa_nil)))) (pe_call (ok__law_digit T) (hr.mono (by decide)) (by rfl) T.m__law_digit T.F__law_digit.kp T.B__law_digit .nil pass0 (pa_cons (pv 0) (pa_cons pe_int pa_nil))) (fun _ _ => rfl)) (pa_cons (pv 4) pa_nil))))))))))), ?_⟩
    obtain ⟨d1, d4, k6⟩ := h4
    refine ⟨_, rfl, 10, 20, rfl, rfl, ⟨by decide, by decide, by decide⟩, b, _, far, st, rfl, hb, hf, hst, by decide, by decide, fun zf far3 st3 zf0 zf1 hf3 hst3 => ⟨_, _, rfl, rfl, ?_⟩⟩
    dsimp only
    have zf6 : 7 ≤ 7 + zf := by omega
    generalize 7 + zf = big at zf6 ⊢
    have hb2 : Bag (upd H b (.lst [.int far3, .int st3])) b far3 st3 := upd_same
    have but2 : But b H (upd H b (.lst [.int far3, .int st3])) := But.upd
    generalize upd H b (.lst [.int far3, .int st3]) = H2 at hb2 but2 ⊢
    refine ⟨_, rfl, _, _, rfl, rfl, _, rfl, 1, rfl, (by show 1 ≤ sizeLine; decide), fun l1 H3 n3 s3 h3 => ⟨(by show 9 ≤ sizeLine; decide), fun l2 H4 n4 s4 h4 => ?_⟩⟩
    refine ⟨_, rfl, b, 9, far3, st3, rfl, s4 _ _ (s3 _ _ hb2), hf3, hst3, by decide, by decide, fun zo far4 st4 zo0 zo1 hf4 hst4 => ?_⟩
    have l1b : l1 ≠ b := (ne_of_none hb2 n3).symm
    have l2b : l2 ≠ b := (ne_of_none (s3 _ _ hb2) n4).symm
    have h3' : upd H4 b (.lst [.int far4, .int st4]) l1 = some (.lst [.int 1]) := by rw [upd_ne l1b]; exact s4 _ _ h3
    have h4' := (upd_ne (H := H4) (o := .lst [.int far4, .int st4]) l2b).trans h4
    have hb5 : Bag (upd H4 b (.lst [.int far4, .int st4])) b far4 st4 := upd_same
    have but5 : But b H (upd H4 b (.lst [.int far4, .int st4])) := ((but2.trans (But.of_same s3)).trans (But.of_same s4)).trans But.upd
    generalize upd H4 b (.lst [.int far4, .int st4]) = H5 at h3' h4' hb5 but5 ⊢
    have nO : ∀ {v : V}, isI v = false → OddV v := fun e z ez => by rw [ez] at e; cases e
    have iO : ∀ {i : Int}, i < 0 ∨ 7 ≤ i → OddV (.int i) := fun h z ez => by cases ez; exact h
    dsimp only at h4'
    have c : zo = 0 ∨ zo = 1 ∨ zo = 2 ∨ zo = 3 ∨ zo = 4 ∨ zo = 5 ∨ zo = 6 ∨ zo = 7 ∨ zo = 8 := by omega
    have pick : ∃ v, atI [V.int (0 - big), .int big, .int (-1), .int 7, .bl true, .non, .str "2", .ref l1, .bl false] zo = some v ∧ OddV v ∧ ∀ H', But b H5 H' → Thing H' v := by
      rcases c with e | e | e | e | e | e | e | e | e <;> subst e
      · exact ⟨_, rfl, iO (by omega), fun _ _ => .inl ⟨_, rfl⟩⟩
      · exact ⟨_, rfl, iO (by omega), fun _ _ => .inl ⟨_, rfl⟩⟩
      · exact ⟨_, rfl, iO (by omega), fun _ _ => .inl ⟨_, rfl⟩⟩
      · exact ⟨_, rfl, iO (by omega), fun _ _ => .inl ⟨_, rfl⟩⟩
      · exact ⟨_, rfl, nO rfl, fun _ _ => .inr (.inl ⟨_, rfl⟩)⟩
      · exact ⟨_, rfl, nO rfl, fun _ _ => .inr (.inr (.inl rfl))⟩
      · exact ⟨_, rfl, nO rfl, fun _ _ => .inr (.inr (.inr (.inl ⟨_, rfl⟩)))⟩
      · exact ⟨_, rfl, nO rfl, fun H' k' => .inr (.inr (.inr (.inr (.inl ⟨l1, _, rfl, k' _ _ h3' l1b⟩))))⟩
      · exact ⟨_, rfl, nO rfl, fun _ _ => .inr (.inl ⟨_, rfl⟩)⟩
    obtain ⟨v, ev, hov, htv⟩ := pick
    refine ⟨l2, _, _, v, rfl, rfl, SqL.of h4', ev, ?_⟩
    refine ⟨_, rfl, b, 4, far4, st4, rfl, hb5, hf4, hst4, by decide, by decide, fun zw far5 st5 zw0 zw1 hf5 hst5 => ?_⟩
    have hb6 : Bag (upd H5 b (.lst [.int far5, .int st5])) b far5 st5 := upd_same
    have but56 : But b H5 (upd H5 b (.lst [.int far5, .int st5])) := But.upd
    generalize upd H5 b (.lst [.int far5, .int st5]) = H6 at hb6 but56 ⊢
    have odd1 : ∀ {v u : V}, (∀ z : Int, v = .int z → z < 1 ∨ 6 ≤ z) → ¬ Wd v u := fun h ⟨d', k', e1, _, hW⟩ => by
      have := h _ e1
      unfold Wide at hW
      omega
    refine ⟨_, rfl, rfl, _, rfl, iteE (fun _ => ?_) (fun _ => ?_)⟩
    · refine ⟨_, rfl, b, 3, far5, st5, rfl, hb6, hf5, hst5, by decide, by decide, fun zx far6 st6 zx0 zx1 hf6 hst6 => ⟨_, _, rfl, rfl, (by show 2 ≤ sizeLine; decide), fun t H7 nt s7 ht => ?_⟩⟩
      refine kk t _ _ far6 st6 H7 (((but5.trans but56).trans But.upd).trans (But.of_same s7)) (s7 _ _ upd_same) hf6 hst6 ht (.inl ⟨_, rfl⟩) (.inl ⟨_, rfl⟩) ?_
      rintro ⟨d', k', e1, e2, hW⟩
      have a1 := V.int.inj e1
      have a2 := V.int.inj e2
      unfold Wide at hW
      omega
    refine ⟨_, rfl, rfl, _, rfl, iteE (fun _ => ?_) (fun _ => ?_)⟩
    · refine ⟨_, rfl, _, rfl, (by show 2 ≤ sizeLine; decide), fun t H7 nt s7 ht => ?_⟩
      exact kk t _ _ far5 st5 H7 ((but5.trans but56).trans (But.of_same s7)) (s7 _ _ hb6) hf5 hst5 ht (htv _ (but56.trans (But.of_same s7))) (.inl ⟨_, rfl⟩) (odd1 fun z ez => by have := hov z ez; omega)
    refine ⟨_, rfl, rfl, _, rfl, iteE (fun _ => ?_) (fun _ => ?_)⟩
    · refine ⟨_, rfl, _, rfl, (by show 2 ≤ sizeLine; decide), fun t H7 nt s7 ht => ?_⟩
      refine kk t _ _ far5 st5 H7 ((but5.trans but56).trans (But.of_same s7)) (s7 _ _ hb6) hf5 hst5 ht (.inl ⟨_, rfl⟩) (htv _ (but56.trans (But.of_same s7))) ?_
      rintro ⟨d', k', e1, e2, hW⟩
      have a1 := V.int.inj e1
      have a2 := hov _ e2
      unfold Wide at hW
      omega
    refine ⟨_, rfl, (by show 3 ≤ sizeLine; decide), fun l3 H7 n7 s7 h7 => ?_⟩
    refine ⟨_, rfl, b, 3, far5, st5, rfl, s7 _ _ hb6, hf5, hst5, by decide, by decide, fun zx far6 st6 zx0 zx1 hf6 hst6 => ?_⟩
    have l3b : l3 ≠ b := (ne_of_none hb6 n7).symm
    have but68 : But b H5 (upd H7 b (.lst [.int far6, .int st6])) := (but56.trans (But.of_same s7)).trans But.upd
    have c3 : zx = 0 ∨ zx = 1 ∨ zx = 2 := by omega
    have pick3 : ∃ v3, atI [v, V.int 0, V.int 6] zx = some v3 ∧ (∀ z : Int, v3 = .int z → z < 1 ∨ 6 ≤ z) ∧ ∀ H', But b H5 H' → Thing H' v3 := by
      rcases c3 with e | e | e <;> subst e
      · exact ⟨_, rfl, fun z ez => by have := hov z ez; omega, htv⟩
      · exact ⟨_, rfl, fun z ez => by cases ez; omega, fun _ _ => .inl ⟨_, rfl⟩⟩
      · exact ⟨_, rfl, fun z ez => by cases ez; omega, fun _ _ => .inl ⟨_, rfl⟩⟩
    obtain ⟨v3, ev3, ho3, ht3⟩ := pick3
    refine ⟨l3, _, _, v3, rfl, rfl, SqL.of (by rw [upd_ne l3b]; exact h7), ev3, _, rfl, (by show 2 ≤ sizeLine; decide), fun t H8 nt s8 ht => ?_⟩
    exact kk t _ _ far6 st6 H8 ((but5.trans but68).trans (But.of_same s8)) (s8 _ _ upd_same) hf6 hst6 ht (ht3 _ (but68.trans (But.of_same s8))) (htv _ (but68.trans (But.of_same s8))) (odd1 ho3)
theorem ok__law_told : FnOk P w K mg base CX0 14 T.f__law_told T.d__law_told ["_law_what", "_law_d", "_law_k"] (spTol K) := by
  refine T.F__law_told.ok sc__law_told (fun vs H Q E h => ?_) (fun cdv A outer s H vs Q E hr h => ?_)
  · obtain ⟨_, _, _, rfl, _⟩ := h
    rfl
  · obtain ⟨wt, d, k, rfl, w0, w3, h4, kk⟩ := h
    refine ⟨_, (pss_cons (ps_set (i := 3) sc__law_told.nd rfl (by first | exact Or.inl rfl | exact Or.inr rfl) (pe_call (ok__law_ask T) (hr.mono (by decide)) (by rfl) T.m__law_ask T.F__law_ask.kp T.B__law_ask .nil passE0 (pa_cons (pv 0) (pa_cons (pv 1) (pa_cons (pv 2) pa_nil)))))
      (pss_cons (ps_if (pt_cmpR op_eq (pv 0) pe_int (nomark _)) (pss_one (ps_ret (pe_callB call_isi (by rfl) T.n_isinstance boot_isinstance (pa_cons (pv 3) (pa_cons (pe_bltn (v := .ty "list") (by rfl) T.n_list boot_list (by rfl)) pa_nil))))) pss_nil)
      (pss_one (ps_ret (pe_and (pe_callB call_isi (by rfl) T.n_isinstance boot_isinstance (pa_cons (pv 3) (pa_cons (pe_bltn (v := .ty "int") (by rfl) T.n_int boot_int (by rfl)) pa_nil))) (pe_one (pe_not (pe_callB call_isi (by rfl) T.n_isinstance boot_isinstance (pa_cons (pv 3) (pa_cons (pe_bltn (v := .ty "bool") (by rfl) T.n_bool boot_bool (by rfl)) pa_nil)))))))))), ?_⟩
    refine ⟨_, rfl, _, rfl, _, rfl, wt, _, _, rfl, .inl ⟨_, rfl⟩, .inl ⟨_, rfl⟩, fun _ => ⟨w0, w3, d, k, rfl, rfl, h4, fun e l xs H' s' hx => ?_, fun e z H' s' => ?_⟩, fun hn => absurd ⟨d, k, rfl, rfl, h4.wide⟩ hn⟩
    · subst e
      refine ⟨_, rfl, rfl, _, rfl, iteE (fun _ => ?_) (fun z => absurd rfl z)⟩
      exact ⟨_, rfl, _, "list", _, true, rfl, .lst hx, kit_same, kk H' s'⟩
    · refine ⟨_, rfl, rfl, _, rfl, iteE (fun z => absurd z e) (fun _ => ?_)⟩
      refine ⟨_, rfl, _, "int", _, true, rfl, .int _, kit_same, true, rfl, iteT ?_⟩
      exact ⟨_, rfl, _, "bool", _, false, rfl, .int _, kit_int_bool, false, rfl, kk H' s'⟩
theorem ok_law : FnOk P w K mg base CX0 15 T.f_law T.d_law ["_law_script"] (sp_law K) := by
  refine T.F_law.ok sc_law (fun vs H Q E h => ?_) (fun cdv A outer s H vs Q E hr h => ?_)
  · obtain ⟨_, _, rfl, _⟩ := h
    rfl
  · obtain ⟨a, ns, rfl, hS, hl, kk⟩ := h
    refine ⟨_, (pss_cons (ps_set (i := 1) sc_law.nd rfl (by first | exact Or.inl rfl | exact Or.inr rfl) (pe_call (ok__law_bag T) (hr.mono (by decide)) (by rfl) T.m__law_bag T.F__law_bag.kp T.B__law_bag .nil pass0 (pa_cons (pe_call (ok__law_cell_at T) (hr.mono (by decide)) (by rfl) T.m__law_cell_at T.F__law_cell_at.kp T.B__law_cell_at .nil pass0 (pa_cons (pv 0) (pa_cons pe_int pa_nil))) (pa_cons pe_int pa_nil))))
      (pss_cons (ps_set (i := 2) sc_law.nd rfl (by first | exact Or.inl rfl | exact Or.inr rfl) (pe_op op_add pe_int (pe_call (ok__law_digit T) (hr.mono (by decide)) (by rfl) T.m__law_digit T.F__law_digit.kp T.B__law_digit .nil pass0 (pa_cons (pv 1) (pa_cons pe_int pa_nil)))))
      (pss_cons (ps_set (i := 3) sc_law.nd rfl (by first | exact Or.inl rfl | exact Or.inr rfl) (pe_call (ok__law_digit T) (hr.mono (by decide)) (by rfl) T.m__law_digit T.F__law_digit.kp T.B__law_digit .nil pass0 (pa_cons (pv 1) (pa_cons pe_int pa_nil))))
      (pss_cons (ps_asg (pe_call (ok__law_odd_pair T) (hr.mono (by decide)) (by rfl) T.m__law_odd_pair T.F__law_odd_pair.kp T.B__law_odd_pair .nil pass0 (pa_cons (pv 1) (pa_cons (pv 2) (pa_cons (pv 3) pa_nil)))) (pg_tup rfl (pgs_cons (pg_name (i := 4) sc_law.nd rfl (by first | exact Or.inl rfl | exact Or.inr rfl)) (pgs_cons (pg_name (i := 5) sc_law.nd rfl (by first | exact Or.inl rfl | exact Or.inr rfl)) pgs_nil))))
      (pss_cons (ps_for PassesOwn.never rfl (pi_range1 (by rfl) T.n_range (pa_cons pe_int pa_nil)) (pg_name (i := 6) sc_law.nd rfl (by first | exact Or.inl rfl | exact Or.inr rfl)) (pss_cons (ps_if (pw_and (pt_cmpR op_lt (pv 6) pe_int (nomark _)) (pw_and1 (pt_not (pt_val (pe_call (ok__law_told T) (hr.mono (by decide)) (by rfl) T.m__law_told T.F__law_told.kp T.B__law_told .nil pass0 (pa_cons (pv 6) (pa_cons (pv 2) (pa_cons (pv 3) pa_nil)))))))).pt (pss_one (ps_ret pe_bl)) pss_nil)
      (pss_one (ps_if (pt_not (pt_val (pe_call (ok__law_refused T) (hr.mono (by decide)) (by rfl) T.m__law_refused T.F__law_refused.kp T.B__law_refused .nil pass0 (pa_cons (pv 6) (pa_cons (pv 4) (pa_cons (pv 5) pa_nil)))))) (pss_one (ps_ret pe_bl)) pss_nil))))
      (pss_one (ps_ret (pe_call (ok__law_told T) (hr.mono (by decide)) (by rfl) T.m__law_told T.F__law_told.kp T.B__law_told .nil pass0 (pa_cons (pe_call (ok__law_digit T) (hr.mono (by decide)) (by rfl) T.m__law_digit T.F__law_digit.kp T.B__law_digit .nil pass0 (pa_cons (pv 1) (pa_cons pe_int pa_nil))) (pa_cons (pv 2) (pa_cons (pv 3) pa_nil))))))))))), ?_⟩
    refine ⟨_, rfl, a, ns, 0, rfl, hS, by decide, fun z => ⟨z, 1, rfl, by decide, by decide, fun b far st H1 s1 nb hb hf hst => ?_⟩⟩
    refine ⟨_, rfl, b, 4, far, st, rfl, hb, hf, hst, by decide, by decide, fun zd far1 st1 zd0 zd1 hf1 hst1 => ⟨_, _, rfl, rfl, ?_⟩⟩
    obtain ⟨d, hd⟩ := Int.eq_ofNat_of_zero_le (show 0 ≤ 1 + zd by omega)
    dsimp only
    rw [hd]
    refine ⟨_, rfl, b, 7, far1, st1, rfl, upd_same, hf1, hst1, by decide, by decide, fun zk far2 st2 zk0 zk1 hf2 hst2 => ?_⟩
    obtain ⟨k, rfl⟩ := Int.eq_ofNat_of_zero_le zk0
    have h4 : W4 d k := ⟨by omega, by omega, by omega⟩
    refine ⟨_, rfl, _, rfl, _, rfl, b, far2, st2, d, k, rfl, upd_same, hf2, hst2, h4, fun t v u far3 st3 H3 but3 hb3 hf3 hst3 ht hv hu hn => ?_⟩
    refine ⟨t, _, rfl, SqT.of ht, rfl, _, _, rfl, _, _, rfl, rfl, ?_⟩
    refine ⟨4, rfl, by decide, by decide, for_range (lo := 0) (n := 4) (fun i σ H4 => (∃ v6, σ = [some (.ref a), some (.ref b), some (.int d), some (.int k), some v, some u, v6]) ∧ Same H3 H4) ⟨⟨none, rfl⟩, Same.refl _⟩ ?_ ?_⟩
    · rintro i σ H4 hi ⟨⟨v6, rfl⟩, s4⟩
      refine ⟨_, rfl, _, _, rfl, rfl, _, rfl, iteD (fun h3 => ?_) (fun h3 => ?_)⟩
      · refine ⟨_, rfl, _, rfl, _, rfl, _, d, k, rfl, by omega, h3, h4, fun H5 s5 => ⟨true, rfl, iteF ?_⟩⟩
        exact ⟨_, rfl, _, rfl, _, rfl, _, v, u, rfl, hv.mono (s4.trans s5), hu.mono (s4.trans s5), hn, fun H6 s6 => ⟨true, rfl, iteF ⟨⟨_, rfl⟩, (s4.trans s5).trans s6⟩⟩⟩
      · refine iteF ?_
        exact ⟨_, rfl, _, rfl, _, rfl, _, v, u, rfl, hv.mono s4, hu.mono s4, hn, fun H6 s6 => ⟨true, rfl, iteF ⟨⟨_, rfl⟩, s4.trans s6⟩⟩⟩
    · rintro σ H4 ⟨⟨v6, rfl⟩, s4⟩
      refine ⟨_, rfl, b, 3, far3, st3, rfl, s4 _ _ hb3, hf3, hst3, by decide, by decide, fun zw far5 st5 zw0 zw1 hf5 hst5 => ?_⟩
      exact ⟨_, rfl, _, rfl, zw, d, k, rfl, zw0, zw1, h4, fun H6 s6 => kk H6⟩
end
theorem us1 {α : Type} {Q : List α → Prop} (h : ∀ x0, Q [x0]) : ∀ us : List α, us.length = 1 → Q us
  := by
  intro us hl
  rcases us with _ | ⟨x0, us⟩
  · simp at hl
  rcases us with _ | ⟨y, us⟩
  · exact h x0
  · simp at hl
theorem us2 {α : Type} {Q : List α → Prop} (h : ∀ x0 x1, Q [x0, x1]) : ∀ us : List α, us.length = 2 → Q us
  := by
  intro us hl
  rcases us with _ | ⟨x0, us⟩
  · simp at hl
  rcases us with _ | ⟨x1, us⟩
  · simp at hl
  rcases us with _ | ⟨y, us⟩
  · exact h x0 x1
  · simp at hl
theorem us3 {α : Type} {Q : List α → Prop} (h : ∀ x0 x1 x2, Q [x0, x1, x2]) : ∀ us : List α, us.length = 3 → Q us
  := by
  intro us hl
  rcases us with _ | ⟨x0, us⟩
  · simp at hl
  rcases us with _ | ⟨x1, us⟩
  · simp at hl
  rcases us with _ | ⟨x2, us⟩
  · simp at hl
  rcases us with _ | ⟨y, us⟩
  · exact h x0 x1 x2
  · simp at hl
theorem us4 {α : Type} {Q : List α → Prop} (h : ∀ x0 x1 x2 x3, Q [x0, x1, x2, x3]) : ∀ us : List α, us.length = 4 → Q us
  := by
  intro us hl
  rcases us with _ | ⟨x0, us⟩
  · simp at hl
  rcases us with _ | ⟨x1, us⟩
  · simp at hl
  rcases us with _ | ⟨x2, us⟩
  · simp at hl
  rcases us with _ | ⟨x3, us⟩
  · simp at hl
  rcases us with _ | ⟨y, us⟩
  · exact h x0 x1 x2 x3
  · simp at hl
theorem all_mk {l : PySem.W.OpenLaw} {w : World} {K : PySem.W.Frag} {h : Heap} {mg : Str → Option Value} {fa : Addr} (X : K.In h) (G : h.Ns mainGlobals mg) (hfa : mg "law" = some (.ref fa))
    {f0 : Addr} {od0 an0 : Option Addr} {sl0 : Array (Option Value)} {oc0 kV0 dc0 pm0 cd0 ct0 : Value}
    (a0 : PySem.W.nsIn K mainGlobals "is_whole" = some (some (.ref f0))) (l0 : K.lookup f0 = some ⟨oc0, od0, .func (PySem.W.fnOf "is_whole" "is_whole" (defArgs s_is_whole) (defBody s_is_whole) (defScope s_is_whole) .none kV0 dc0 pm0 an0 cd0 ct0), sl0⟩) (c0 : PySem.W.codeIn K cd0 "is_whole" = true) (k0 : PySem.W.keepIn K (.ref f0) = true)
    {f1 : Addr} {od1 an1 : Option Addr} {sl1 : Array (Option Value)} {oc1 kV1 dc1 pm1 cd1 ct1 : Value}
    (a1 : PySem.W.nsIn K mainGlobals "need_between" = some (some (.ref f1))) (l1 : K.lookup f1 = some ⟨oc1, od1, .func (PySem.W.fnOf "need_between" "need_between" (defArgs s_need_between) (defBody s_need_between) (defScope s_need_between) .none kV1 dc1 pm1 an1 cd1 ct1), sl1⟩) (c1 : PySem.W.codeIn K cd1 "need_between" = true) (k1 : PySem.W.keepIn K (.ref f1) = true)
    {f2 : Addr} {od2 an2 : Option Addr} {sl2 : Array (Option Value)} {oc2 kV2 dc2 pm2 cd2 ct2 : Value}
    (a2 : PySem.W.nsIn K mainGlobals "need_wide" = some (some (.ref f2))) (l2 : K.lookup f2 = some ⟨oc2, od2, .func (PySem.W.fnOf "need_wide" "need_wide" (defArgs s_need_wide) (defBody s_need_wide) (defScope s_need_wide) .none kV2 dc2 pm2 an2 cd2 ct2), sl2⟩) (c2 : PySem.W.codeIn K cd2 "need_wide" = true) (k2 : PySem.W.keepIn K (.ref f2) = true)
    {f3 : Addr} {od3 an3 : Option Addr} {sl3 : Array (Option Value)} {oc3 kV3 dc3 pm3 cd3 ct3 : Value}
    (a3 : PySem.W.nsIn K mainGlobals "need_degree" = some (some (.ref f3))) (l3 : K.lookup f3 = some ⟨oc3, od3, .func (PySem.W.fnOf "need_degree" "need_degree" (defArgs s_need_degree) (defBody s_need_degree) (defScope s_need_degree) .none kV3 dc3 pm3 an3 cd3 ct3), sl3⟩) (c3 : PySem.W.codeIn K cd3 "need_degree" = true) (k3 : PySem.W.keepIn K (.ref f3) = true)
    {f4 : Addr} {od4 an4 : Option Addr} {sl4 : Array (Option Value)} {oc4 kV4 dc4 pm4 cd4 ct4 : Value}
    (a4 : PySem.W.nsIn K mainGlobals "gathered" = some (some (.ref f4))) (l4 : K.lookup f4 = some ⟨oc4, od4, .func (PySem.W.fnOf "gathered" "gathered" (defArgs s_gathered) (defBody s_gathered) (defScope s_gathered) .none kV4 dc4 pm4 an4 cd4 ct4), sl4⟩) (c4 : PySem.W.codeIn K cd4 "gathered" = true) (k4 : PySem.W.keepIn K (.ref f4) = true)
    {f5 : Addr} {od5 an5 : Option Addr} {sl5 : Array (Option Value)} {oc5 kV5 dc5 pm5 cd5 ct5 : Value}
    (a5 : PySem.W.nsIn K mainGlobals "how_many_sets" = some (some (.ref f5))) (l5 : K.lookup f5 = some ⟨oc5, od5, .func (PySem.W.fnOf "how_many_sets" "how_many_sets" (defArgs s_how_many_sets) (defBody s_how_many_sets) (defScope s_how_many_sets) .none kV5 dc5 pm5 an5 cd5 ct5), sl5⟩) (c5 : PySem.W.codeIn K cd5 "how_many_sets" = true) (k5 : PySem.W.keepIn K (.ref f5) = true)
    {f6 : Addr} {od6 an6 : Option Addr} {sl6 : Array (Option Value)} {oc6 kV6 dc6 pm6 cd6 ct6 : Value}
    (a6 : PySem.W.nsIn K mainGlobals "ends_at" = some (some (.ref f6))) (l6 : K.lookup f6 = some ⟨oc6, od6, .func (PySem.W.fnOf "ends_at" "ends_at" (defArgs s_ends_at) (defBody s_ends_at) (defScope s_ends_at) .none kV6 dc6 pm6 an6 cd6 ct6), sl6⟩) (c6 : PySem.W.codeIn K cd6 "ends_at" = true) (k6 : PySem.W.keepIn K (.ref f6) = true)
    {f7 : Addr} {od7 an7 : Option Addr} {sl7 : Array (Option Value)} {oc7 kV7 dc7 pm7 cd7 ct7 : Value}
    (a7 : PySem.W.nsIn K mainGlobals "sound" = some (some (.ref f7))) (l7 : K.lookup f7 = some ⟨oc7, od7, .func (PySem.W.fnOf "sound" "sound" (defArgs s_sound) (defBody s_sound) (defScope s_sound) .none kV7 dc7 pm7 an7 cd7 ct7), sl7⟩) (c7 : PySem.W.codeIn K cd7 "sound" = true) (k7 : PySem.W.keepIn K (.ref f7) = true)
    {f8 : Addr} {od8 an8 : Option Addr} {sl8 : Array (Option Value)} {oc8 kV8 dc8 pm8 cd8 ct8 : Value}
    (a8 : PySem.W.nsIn K mainGlobals "lost" = some (some (.ref f8))) (l8 : K.lookup f8 = some ⟨oc8, od8, .func (PySem.W.fnOf "lost" "lost" (defArgs s_lost) (defBody s_lost) (defScope s_lost) .none kV8 dc8 pm8 an8 cd8 ct8), sl8⟩) (c8 : PySem.W.codeIn K cd8 "lost" = true) (k8 : PySem.W.keepIn K (.ref f8) = true)
    {f9 : Addr} {od9 an9 : Option Addr} {sl9 : Array (Option Value)} {oc9 kV9 dc9 pm9 cd9 ct9 : Value}
    (a9 : PySem.W.nsIn K mainGlobals "lifts_from" = some (some (.ref f9))) (l9 : K.lookup f9 = some ⟨oc9, od9, .func (PySem.W.fnOf "lifts_from" "lifts_from" (defArgs s_lifts_from) (defBody s_lifts_from) (defScope s_lifts_from) .none kV9 dc9 pm9 an9 cd9 ct9), sl9⟩) (c9 : PySem.W.codeIn K cd9 "lifts_from" = true) (k9 : PySem.W.keepIn K (.ref f9) = true)
    {f10 : Addr} {od10 an10 : Option Addr} {sl10 : Array (Option Value)} {oc10 kV10 dc10 pm10 cd10 ct10 : Value}
    (a10 : PySem.W.nsIn K mainGlobals "leaving" = some (some (.ref f10))) (l10 : K.lookup f10 = some ⟨oc10, od10, .func (PySem.W.fnOf "leaving" "leaving" (defArgs s_leaving) (defBody s_leaving) (defScope s_leaving) .none kV10 dc10 pm10 an10 cd10 ct10), sl10⟩) (c10 : PySem.W.codeIn K cd10 "leaving" = true) (k10 : PySem.W.keepIn K (.ref f10) = true)
    {f11 : Addr} {od11 an11 : Option Addr} {sl11 : Array (Option Value)} {oc11 kV11 dc11 pm11 cd11 ct11 : Value}
    (a11 : PySem.W.nsIn K mainGlobals "with_floor" = some (some (.ref f11))) (l11 : K.lookup f11 = some ⟨oc11, od11, .func (PySem.W.fnOf "with_floor" "with_floor" (defArgs s_with_floor) (defBody s_with_floor) (defScope s_with_floor) .none kV11 dc11 pm11 an11 cd11 ct11), sl11⟩) (c11 : PySem.W.codeIn K cd11 "with_floor" = true) (k11 : PySem.W.keepIn K (.ref f11) = true)
    {f12 : Addr} {od12 an12 : Option Addr} {sl12 : Array (Option Value)} {oc12 kV12 dc12 pm12 cd12 ct12 : Value}
    (a12 : PySem.W.nsIn K mainGlobals "drawings" = some (some (.ref f12))) (l12 : K.lookup f12 = some ⟨oc12, od12, .func (PySem.W.fnOf "drawings" "drawings" (defArgs s_drawings) (defBody s_drawings) (defScope s_drawings) .none kV12 dc12 pm12 an12 cd12 ct12), sl12⟩) (c12 : PySem.W.codeIn K cd12 "drawings" = true) (k12 : PySem.W.keepIn K (.ref f12) = true)
    {f13 : Addr} {od13 an13 : Option Addr} {sl13 : Array (Option Value)} {oc13 kV13 dc13 pm13 cd13 ct13 : Value}
    (a13 : PySem.W.nsIn K mainGlobals "parts" = some (some (.ref f13))) (l13 : K.lookup f13 = some ⟨oc13, od13, .func (PySem.W.fnOf "parts" "parts" (defArgs s_parts) (defBody s_parts) (defScope s_parts) .none kV13 dc13 pm13 an13 cd13 ct13), sl13⟩) (c13 : PySem.W.codeIn K cd13 "parts" = true) (k13 : PySem.W.keepIn K (.ref f13) = true)
    {f14 : Addr} {od14 an14 : Option Addr} {sl14 : Array (Option Value)} {oc14 kV14 dc14 pm14 cd14 ct14 : Value}
    (a14 : PySem.W.nsIn K mainGlobals "worth" = some (some (.ref f14))) (l14 : K.lookup f14 = some ⟨oc14, od14, .func (PySem.W.fnOf "worth" "worth" (defArgs s_worth) (defBody s_worth) (defScope s_worth) .none kV14 dc14 pm14 an14 cd14 ct14), sl14⟩) (c14 : PySem.W.codeIn K cd14 "worth" = true) (k14 : PySem.W.keepIn K (.ref f14) = true)
    {f15 : Addr} {od15 an15 : Option Addr} {sl15 : Array (Option Value)} {oc15 kV15 dc15 pm15 cd15 ct15 : Value}
    (a15 : PySem.W.nsIn K mainGlobals "choose" = some (some (.ref f15))) (l15 : K.lookup f15 = some ⟨oc15, od15, .func (PySem.W.fnOf "choose" "choose" (defArgs s_choose) (defBody s_choose) (defScope s_choose) .none kV15 dc15 pm15 an15 cd15 ct15), sl15⟩) (c15 : PySem.W.codeIn K cd15 "choose" = true) (k15 : PySem.W.keepIn K (.ref f15) = true)
    {f16 : Addr} {od16 an16 : Option Addr} {sl16 : Array (Option Value)} {oc16 kV16 dc16 pm16 cd16 ct16 : Value}
    (a16 : PySem.W.nsIn K mainGlobals "with_more" = some (some (.ref f16))) (l16 : K.lookup f16 = some ⟨oc16, od16, .func (PySem.W.fnOf "with_more" "with_more" (defArgs s_with_more) (defBody s_with_more) (defScope s_with_more) .none kV16 dc16 pm16 an16 cd16 ct16), sl16⟩) (c16 : PySem.W.codeIn K cd16 "with_more" = true) (k16 : PySem.W.keepIn K (.ref f16) = true)
    {f17 : Addr} {od17 an17 : Option Addr} {sl17 : Array (Option Value)} {oc17 kV17 dc17 pm17 cd17 ct17 : Value}
    (a17 : PySem.W.nsIn K mainGlobals "need_sound" = some (some (.ref f17))) (l17 : K.lookup f17 = some ⟨oc17, od17, .func (PySem.W.fnOf "need_sound" "need_sound" (defArgs s_need_sound) (defBody s_need_sound) (defScope s_need_sound) .none kV17 dc17 pm17 an17 cd17 ct17), sl17⟩) (c17 : PySem.W.codeIn K cd17 "need_sound" = true) (k17 : PySem.W.keepIn K (.ref f17) = true)
    {f18 : Addr} {od18 an18 : Option Addr} {sl18 : Array (Option Value)} {oc18 kV18 dc18 pm18 cd18 ct18 : Value}
    (a18 : PySem.W.nsIn K mainGlobals "end_marks" = some (some (.ref f18))) (l18 : K.lookup f18 = some ⟨oc18, od18, .func (PySem.W.fnOf "end_marks" "end_marks" (defArgs s_end_marks) (defBody s_end_marks) (defScope s_end_marks) .none kV18 dc18 pm18 an18 cd18 ct18), sl18⟩) (c18 : PySem.W.codeIn K cd18 "end_marks" = true) (k18 : PySem.W.keepIn K (.ref f18) = true)
    {f19 : Addr} {od19 an19 : Option Addr} {sl19 : Array (Option Value)} {oc19 kV19 dc19 pm19 cd19 ct19 : Value}
    (a19 : PySem.W.nsIn K mainGlobals "put_between" = some (some (.ref f19))) (l19 : K.lookup f19 = some ⟨oc19, od19, .func (PySem.W.fnOf "put_between" "put_between" (defArgs s_put_between) (defBody s_put_between) (defScope s_put_between) .none kV19 dc19 pm19 an19 cd19 ct19), sl19⟩) (c19 : PySem.W.codeIn K cd19 "put_between" = true) (k19 : PySem.W.keepIn K (.ref f19) = true)
    {f20 : Addr} {od20 an20 : Option Addr} {sl20 : Array (Option Value)} {oc20 kV20 dc20 pm20 cd20 ct20 : Value}
    (a20 : PySem.W.nsIn K mainGlobals "how_many_orders" = some (some (.ref f20))) (l20 : K.lookup f20 = some ⟨oc20, od20, .func (PySem.W.fnOf "how_many_orders" "how_many_orders" (defArgs s_how_many_orders) (defBody s_how_many_orders) (defScope s_how_many_orders) .none kV20 dc20 pm20 an20 cd20 ct20), sl20⟩) (c20 : PySem.W.codeIn K cd20 "how_many_orders" = true) (k20 : PySem.W.keepIn K (.ref f20) = true)
    {f21 : Addr} {od21 an21 : Option Addr} {sl21 : Array (Option Value)} {oc21 kV21 dc21 pm21 cd21 ct21 : Value}
    (a21 : PySem.W.nsIn K mainGlobals "how_many" = some (some (.ref f21))) (l21 : K.lookup f21 = some ⟨oc21, od21, .func (PySem.W.fnOf "how_many" "how_many" (defArgs s_how_many) (defBody s_how_many) (defScope s_how_many) .none kV21 dc21 pm21 an21 cd21 ct21), sl21⟩) (c21 : PySem.W.codeIn K cd21 "how_many" = true) (k21 : PySem.W.keepIn K (.ref f21) = true)
    {f22 : Addr} {od22 an22 : Option Addr} {sl22 : Array (Option Value)} {oc22 kV22 dc22 pm22 cd22 ct22 : Value}
    (a22 : PySem.W.nsIn K mainGlobals "may_stand" = some (some (.ref f22))) (l22 : K.lookup f22 = some ⟨oc22, od22, .func (PySem.W.fnOf "may_stand" "may_stand" (defArgs s_may_stand) (defBody s_may_stand) (defScope s_may_stand) .none kV22 dc22 pm22 an22 cd22 ct22), sl22⟩) (c22 : PySem.W.codeIn K cd22 "may_stand" = true) (k22 : PySem.W.keepIn K (.ref f22) = true)
    {f23 : Addr} {od23 an23 : Option Addr} {sl23 : Array (Option Value)} {oc23 kV23 dc23 pm23 cd23 ct23 : Value}
    (a23 : PySem.W.nsIn K mainGlobals "without_first" = some (some (.ref f23))) (l23 : K.lookup f23 = some ⟨oc23, od23, .func (PySem.W.fnOf "without_first" "without_first" (defArgs s_without_first) (defBody s_without_first) (defScope s_without_first) .none kV23 dc23 pm23 an23 cd23 ct23), sl23⟩) (c23 : PySem.W.codeIn K cd23 "without_first" = true) (k23 : PySem.W.keepIn K (.ref f23) = true)
    {f24 : Addr} {od24 an24 : Option Addr} {sl24 : Array (Option Value)} {oc24 kV24 dc24 pm24 cd24 ct24 : Value}
    (a24 : PySem.W.nsIn K mainGlobals "orders" = some (some (.ref f24))) (l24 : K.lookup f24 = some ⟨oc24, od24, .func (PySem.W.fnOf "orders" "orders" (defArgs s_orders) (defBody s_orders) (defScope s_orders) .none kV24 dc24 pm24 an24 cd24 ct24), sl24⟩) (c24 : PySem.W.codeIn K cd24 "orders" = true) (k24 : PySem.W.keepIn K (.ref f24) = true)
    {f25 : Addr} {od25 an25 : Option Addr} {sl25 : Array (Option Value)} {oc25 kV25 dc25 pm25 cd25 ct25 : Value}
    (a25 : PySem.W.nsIn K mainGlobals "all_marks" = some (some (.ref f25))) (l25 : K.lookup f25 = some ⟨oc25, od25, .func (PySem.W.fnOf "all_marks" "all_marks" (defArgs s_all_marks) (defBody s_all_marks) (defScope s_all_marks) .none kV25 dc25 pm25 an25 cd25 ct25), sl25⟩) (c25 : PySem.W.codeIn K cd25 "all_marks" = true) (k25 : PySem.W.keepIn K (.ref f25) = true)
    {f26 : Addr} {od26 an26 : Option Addr} {sl26 : Array (Option Value)} {oc26 kV26 dc26 pm26 cd26 ct26 : Value}
    (a26 : PySem.W.nsIn K mainGlobals "markings" = some (some (.ref f26))) (l26 : K.lookup f26 = some ⟨oc26, od26, .func (PySem.W.fnOf "markings" "markings" (defArgs s_markings) (defBody s_markings) (defScope s_markings) .none kV26 dc26 pm26 an26 cd26 ct26), sl26⟩) (c26 : PySem.W.codeIn K cd26 "markings" = true) (k26 : PySem.W.keepIn K (.ref f26) = true)
    {f27 : Addr} {od27 an27 : Option Addr} {sl27 : Array (Option Value)} {oc27 kV27 dc27 pm27 cd27 ct27 : Value}
    (a27 : PySem.W.nsIn K mainGlobals "count_by_floors" = some (some (.ref f27))) (l27 : K.lookup f27 = some ⟨oc27, od27, .func (PySem.W.fnOf "count_by_floors" "count_by_floors" (defArgs s_count_by_floors) (defBody s_count_by_floors) (defScope s_count_by_floors) .none kV27 dc27 pm27 an27 cd27 ct27), sl27⟩) (c27 : PySem.W.codeIn K cd27 "count_by_floors" = true) (k27 : PySem.W.keepIn K (.ref f27) = true)
    {f28 : Addr} {od28 an28 : Option Addr} {sl28 : Array (Option Value)} {oc28 kV28 dc28 pm28 cd28 ct28 : Value}
    (a28 : PySem.W.nsIn K mainGlobals "whole_by_floors" = some (some (.ref f28))) (l28 : K.lookup f28 = some ⟨oc28, od28, .func (PySem.W.fnOf "whole_by_floors" "whole_by_floors" (defArgs s_whole_by_floors) (defBody s_whole_by_floors) (defScope s_whole_by_floors) .none kV28 dc28 pm28 an28 cd28 ct28), sl28⟩) (c28 : PySem.W.codeIn K cd28 "whole_by_floors" = true) (k28 : PySem.W.keepIn K (.ref f28) = true)
    {f29 : Addr} {od29 an29 : Option Addr} {sl29 : Array (Option Value)} {oc29 kV29 dc29 pm29 cd29 ct29 : Value}
    (a29 : PySem.W.nsIn K mainGlobals "paper" = some (some (.ref f29))) (l29 : K.lookup f29 = some ⟨oc29, od29, .func (PySem.W.fnOf "paper" "paper" (defArgs s_paper) (defBody s_paper) (defScope s_paper) .none kV29 dc29 pm29 an29 cd29 ct29), sl29⟩) (c29 : PySem.W.codeIn K cd29 "paper" = true) (k29 : PySem.W.keepIn K (.ref f29) = true)
    {f30 : Addr} {od30 an30 : Option Addr} {sl30 : Array (Option Value)} {oc30 kV30 dc30 pm30 cd30 ct30 : Value}
    (a30 : PySem.W.nsIn K mainGlobals "_law_cell_at" = some (some (.ref f30))) (l30 : K.lookup f30 = some ⟨oc30, od30, .func (PySem.W.fnOf "_law_cell_at" "_law_cell_at" (defArgs s__law_cell_at) (defBody s__law_cell_at) (defScope s__law_cell_at) .none kV30 dc30 pm30 an30 cd30 ct30), sl30⟩) (c30 : PySem.W.codeIn K cd30 "_law_cell_at" = true) (k30 : PySem.W.keepIn K (.ref f30) = true)
    {f31 : Addr} {od31 an31 : Option Addr} {sl31 : Array (Option Value)} {oc31 kV31 dc31 pm31 cd31 ct31 : Value}
    (a31 : PySem.W.nsIn K mainGlobals "_law_bag" = some (some (.ref f31))) (l31 : K.lookup f31 = some ⟨oc31, od31, .func (PySem.W.fnOf "_law_bag" "_law_bag" (defArgs s__law_bag) (defBody s__law_bag) (defScope s__law_bag) .none kV31 dc31 pm31 an31 cd31 ct31), sl31⟩) (c31 : PySem.W.codeIn K cd31 "_law_bag" = true) (k31 : PySem.W.keepIn K (.ref f31) = true)
    {f32 : Addr} {od32 an32 : Option Addr} {sl32 : Array (Option Value)} {oc32 kV32 dc32 pm32 cd32 ct32 : Value}
    (a32 : PySem.W.nsIn K mainGlobals "_law_mixed" = some (some (.ref f32))) (l32 : K.lookup f32 = some ⟨oc32, od32, .func (PySem.W.fnOf "_law_mixed" "_law_mixed" (defArgs s__law_mixed) (defBody s__law_mixed) (defScope s__law_mixed) .none kV32 dc32 pm32 an32 cd32 ct32), sl32⟩) (c32 : PySem.W.codeIn K cd32 "_law_mixed" = true) (k32 : PySem.W.keepIn K (.ref f32) = true)
    {f33 : Addr} {od33 an33 : Option Addr} {sl33 : Array (Option Value)} {oc33 kV33 dc33 pm33 cd33 ct33 : Value}
    (a33 : PySem.W.nsIn K mainGlobals "_law_digit" = some (some (.ref f33))) (l33 : K.lookup f33 = some ⟨oc33, od33, .func (PySem.W.fnOf "_law_digit" "_law_digit" (defArgs s__law_digit) (defBody s__law_digit) (defScope s__law_digit) .none kV33 dc33 pm33 an33 cd33 ct33), sl33⟩) (c33 : PySem.W.codeIn K cd33 "_law_digit" = true) (k33 : PySem.W.keepIn K (.ref f33) = true)
    {f34 : Addr} {od34 an34 : Option Addr} {sl34 : Array (Option Value)} {oc34 kV34 dc34 pm34 cd34 ct34 : Value}
    (a34 : PySem.W.nsIn K mainGlobals "_law_ask" = some (some (.ref f34))) (l34 : K.lookup f34 = some ⟨oc34, od34, .func (PySem.W.fnOf "_law_ask" "_law_ask" (defArgs s__law_ask) (defBody s__law_ask) (defScope s__law_ask) .none kV34 dc34 pm34 an34 cd34 ct34), sl34⟩) (c34 : PySem.W.codeIn K cd34 "_law_ask" = true) (k34 : PySem.W.keepIn K (.ref f34) = true)
    {f35 : Addr} {od35 an35 : Option Addr} {sl35 : Array (Option Value)} {oc35 kV35 dc35 pm35 cd35 ct35 : Value}
    (a35 : PySem.W.nsIn K mainGlobals "_law_refused" = some (some (.ref f35))) (l35 : K.lookup f35 = some ⟨oc35, od35, .func (PySem.W.fnOf "_law_refused" "_law_refused" (defArgs s__law_refused) (defBody s__law_refused) (defScope s__law_refused) .none kV35 dc35 pm35 an35 cd35 ct35), sl35⟩) (c35 : PySem.W.codeIn K cd35 "_law_refused" = true) (k35 : PySem.W.keepIn K (.ref f35) = true)
    {f36 : Addr} {od36 an36 : Option Addr} {sl36 : Array (Option Value)} {oc36 kV36 dc36 pm36 cd36 ct36 : Value}
    (a36 : PySem.W.nsIn K mainGlobals "_law_odd_pair" = some (some (.ref f36))) (l36 : K.lookup f36 = some ⟨oc36, od36, .func (PySem.W.fnOf "_law_odd_pair" "_law_odd_pair" (defArgs s__law_odd_pair) (defBody s__law_odd_pair) (defScope s__law_odd_pair) .none kV36 dc36 pm36 an36 cd36 ct36), sl36⟩) (c36 : PySem.W.codeIn K cd36 "_law_odd_pair" = true) (k36 : PySem.W.keepIn K (.ref f36) = true)
    {f37 : Addr} {od37 an37 : Option Addr} {sl37 : Array (Option Value)} {oc37 kV37 dc37 pm37 cd37 ct37 : Value}
    (a37 : PySem.W.nsIn K mainGlobals "_law_told" = some (some (.ref f37))) (l37 : K.lookup f37 = some ⟨oc37, od37, .func (PySem.W.fnOf "_law_told" "_law_told" (defArgs s__law_told) (defBody s__law_told) (defScope s__law_told) .none kV37 dc37 pm37 an37 cd37 ct37), sl37⟩) (c37 : PySem.W.codeIn K cd37 "_law_told" = true) (k37 : PySem.W.keepIn K (.ref f37) = true)
    {f38 : Addr} {od38 an38 : Option Addr} {sl38 : Array (Option Value)} {oc38 kV38 dc38 pm38 cd38 ct38 : Value}
    (a38 : PySem.W.nsIn K mainGlobals "law" = some (some (.ref f38))) (l38 : K.lookup f38 = some ⟨oc38, od38, .func (PySem.W.fnOf "law" "law" (defArgs s_law) (defBody s_law) (defScope s_law) .none kV38 dc38 pm38 an38 cd38 ct38), sl38⟩) (c38 : PySem.W.codeIn K cd38 "law" = true) (k38 : PySem.W.keepIn K (.ref f38) = true)
    (z0 : PySem.W.nsIn K mainGlobals "isinstance" = some none)
    (z1 : PySem.W.nsIn K mainGlobals "int" = some none)
    (z2 : PySem.W.nsIn K mainGlobals "bool" = some none)
    (z3 : PySem.W.nsIn K mainGlobals "len" = some none)
    (z4 : PySem.W.nsIn K mainGlobals "min" = some none)
    (z5 : PySem.W.nsIn K mainGlobals "range" = some none)
    (z6 : PySem.W.nsIn K mainGlobals "enumerate" = some none)
    (z7 : PySem.W.nsIn K mainGlobals "sum" = some none)
    (z8 : PySem.W.nsIn K mainGlobals "sorted" = some none)
    (z9 : PySem.W.nsIn K mainGlobals "list" = some none)
    (z10 : PySem.W.nsIn K mainGlobals "tuple" = some none)
    (z11 : PySem.W.nsIn K mainGlobals "set" = some none)
    (z12 : PySem.W.nsIn K mainGlobals "any" = some none)
    (z13 : PySem.W.nsIn K mainGlobals "abs" = some none)
    (z14 : PySem.W.nsIn K mainGlobals "ValueError" = some none)
    {A_WIDE : Addr} (da_WIDE : PySem.W.nsIn K mainGlobals "WIDE" = some (some (.ref A_WIDE))) (dt_WIDE : dtabIn K A_WIDE [(1, 6), (2, 6), (3, 6), (4, 6), (5, 3)] = true)
    {C_NoBound : Addr} (ca_NoBound : PySem.W.nsIn K mainGlobals "NoBound" = some (some (.ref C_NoBound)))
    {C_NoDrawing : Addr} (ca_NoDrawing : PySem.W.nsIn K mainGlobals "NoDrawing" = some (some (.ref C_NoDrawing)))
    {C_CurveError : Addr} (ca_CurveError : PySem.W.nsIn K mainGlobals "CurveError" = some (some (.ref C_CurveError)))
    {C_NoEnds : Addr} (ca_NoEnds : PySem.W.nsIn K mainGlobals "NoEnds" = some (some (.ref C_NoEnds)))
    {C_NoNumber : Addr} (ca_NoNumber : PySem.W.nsIn K mainGlobals "NoNumber" = some (some (.ref C_NoNumber)))
    {C_NoText : Addr} (ca_NoText : PySem.W.nsIn K mainGlobals "NoText" = some (some (.ref C_NoText)))
    (cx_NoBound : PySem.W.excIn K C_NoBound bmV "ValueError.__new__" = true)
    (xc_NoBound_cl : (PySem.W.clsIn K C_NoBound).isSome = true)
    (xc_NoBound_ga : PySem.W.findIn K (.ref C_NoBound) "__getattribute__" = some (some (.builtin "BaseException.__getattribute__")))
    (xc_NoBound_gt : PySem.W.findIn K (.ref C_NoBound) "__getattr__" = some none)
    (xc_NoBound_ca : PySem.W.findIn K (.ref C_NoBound) "__class__" = some (some (.builtin "object.__class__")))
    (xc_NoBound_gn : PySem.W.specialIn K (.builtin "object.__class__") "__get__" = some (some (.builtin "getset_descriptor.__get__")))
    (xc_NoBound_tk : PySem.W.takesIn K (.builtin "object.__class__") = some true)
    (xc_NoBound_ob : PySem.W.mroIn K C_NoBound (.type "object") = some true)
    (xc_NoBound_be : PySem.W.mroIn K C_NoBound (.type "BaseException") = some true)
    (cx_NoDrawing : PySem.W.excIn K C_NoDrawing bmV "ValueError.__new__" = true)
    (xc_NoDrawing_cl : (PySem.W.clsIn K C_NoDrawing).isSome = true)
    (xc_NoDrawing_ga : PySem.W.findIn K (.ref C_NoDrawing) "__getattribute__" = some (some (.builtin "BaseException.__getattribute__")))
    (xc_NoDrawing_gt : PySem.W.findIn K (.ref C_NoDrawing) "__getattr__" = some none)
    (xc_NoDrawing_ca : PySem.W.findIn K (.ref C_NoDrawing) "__class__" = some (some (.builtin "object.__class__")))
    (xc_NoDrawing_gn : PySem.W.specialIn K (.builtin "object.__class__") "__get__" = some (some (.builtin "getset_descriptor.__get__")))
    (xc_NoDrawing_tk : PySem.W.takesIn K (.builtin "object.__class__") = some true)
    (xc_NoDrawing_ob : PySem.W.mroIn K C_NoDrawing (.type "object") = some true)
    (xc_NoDrawing_be : PySem.W.mroIn K C_NoDrawing (.type "BaseException") = some true)
    (ce_NoBound_CurveError : PySem.W.exmOne K (.ref C_NoBound) (.ref C_CurveError) = some true)
    (ce_NoDrawing_CurveError : PySem.W.exmOne K (.ref C_NoDrawing) (.ref C_CurveError) = some true)
    (ck_NoBound_NoBound : PySem.W.kitOne K (.ref C_NoBound) (.ref C_NoBound) = some true)
    (ck_NoBound_ValueError : PySem.W.kitOne K (.ref C_NoBound) (.type "ValueError") = some true)
    (ck_NoDrawing_NoBound : PySem.W.kitOne K (.ref C_NoDrawing) (.ref C_NoBound) = some false)
    (ck_NoDrawing_ValueError : PySem.W.kitOne K (.ref C_NoDrawing) (.type "ValueError") = some true)
    (cs_NoBound_0 : PySem.W.kitAny K (.ref C_NoBound) [(.ref C_NoDrawing), (.ref C_NoEnds), (.ref C_NoNumber), (.ref C_NoText)] = some false)
    (cs_NoDrawing_1 : PySem.W.kitAny K (.ref C_NoDrawing) [(.ref C_NoDrawing), (.ref C_NoEnds), (.ref C_NoNumber), (.ref C_NoText)] = some true)
    : ∃ fd : FuncData, (∀ (s : Shared) (v : Value), BindsTo s fd ⟨[v], []⟩ [("_law_script", v)]) ∧ ∀ base : Heap, K.In base → base.Ns mainGlobals mg → FnOk l.prog w K mg base CX0 15 fa fd ["_law_script"] (sp_law K) := by
  have e := hfa.symm.trans (PySem.W.mg_of X G a38)
  cases e
  have F0 := fun_mk (st := s_is_whole) l0 c0 k0
  have B0 := F0.binds (ps := ["thing"]) fun _ _ _ _ _ _ us hl => us1 (Q := fun us => bindArgs _ ⟨us, []⟩ = pure (List.zip _ us)) (fun _ => rfl) us hl
  have F1 := fun_mk (st := s_need_between) l1 c1 k1
  have B1 := F1.binds (ps := ["thing", "least", "greatest"]) fun _ _ _ _ _ _ us hl => us3 (Q := fun us => bindArgs _ ⟨us, []⟩ = pure (List.zip _ us)) (fun _ _ _ => rfl) us hl
  have F2 := fun_mk (st := s_need_wide) l2 c2 k2
  have B2 := F2.binds (ps := ["d", "k"]) fun _ _ _ _ _ _ us hl => us2 (Q := fun us => bindArgs _ ⟨us, []⟩ = pure (List.zip _ us)) (fun _ _ => rfl) us hl
  have F3 := fun_mk (st := s_need_degree) l3 c3 k3
  have B3 := F3.binds (ps := ["d"]) fun _ _ _ _ _ _ us hl => us1 (Q := fun us => bindArgs _ ⟨us, []⟩ = pure (List.zip _ us)) (fun _ => rfl) us hl
  have F4 := fun_mk (st := s_gathered) l4 c4 k4
  have B4 := F4.binds (ps := ["things", "pairs"]) fun _ _ _ _ _ _ us hl => us2 (Q := fun us => bindArgs _ ⟨us, []⟩ = pure (List.zip _ us)) (fun _ _ => rfl) us hl
  have F5 := fun_mk (st := s_how_many_sets) l5 c5 k5
  have B5 := F5.binds (ps := ["things", "pairs"]) fun _ _ _ _ _ _ us hl => us2 (Q := fun us => bindArgs _ ⟨us, []⟩ = pure (List.zip _ us)) (fun _ _ => rfl) us hl
  have F6 := fun_mk (st := s_ends_at) l6 c6 k6
  have B6 := F6.binds (ps := ["d", "drawing"]) fun _ _ _ _ _ _ us hl => us2 (Q := fun us => bindArgs _ ⟨us, []⟩ = pure (List.zip _ us)) (fun _ _ => rfl) us hl
  have F7 := fun_mk (st := s_sound) l7 c7 k7
  have B7 := F7.binds (ps := ["d", "drawing"]) fun _ _ _ _ _ _ us hl => us2 (Q := fun us => bindArgs _ ⟨us, []⟩ = pure (List.zip _ us)) (fun _ _ => rfl) us hl
  have F8 := fun_mk (st := s_lost) l8 c8 k8
  have B8 := F8.binds (ps := ["lift"]) fun _ _ _ _ _ _ us hl => us1 (Q := fun us => bindArgs _ ⟨us, []⟩ = pure (List.zip _ us)) (fun _ => rfl) us hl
  have F9 := fun_mk (st := s_lifts_from) l9 c9 k9
  have B9 := F9.binds (ps := ["d", "floor", "weight", "spare"]) fun _ _ _ _ _ _ us hl => us4 (Q := fun us => bindArgs _ ⟨us, []⟩ = pure (List.zip _ us)) (fun _ _ _ _ => rfl) us hl
  have F10 := fun_mk (st := s_leaving) l10 c10 k10
  have B10 := F10.binds (ps := ["lifts", "weight", "spare"]) fun _ _ _ _ _ _ us hl => us3 (Q := fun us => bindArgs _ ⟨us, []⟩ = pure (List.zip _ us)) (fun _ _ _ => rfl) us hl
  have F11 := fun_mk (st := s_with_floor) l11 c11 k11
  have B11 := F11.binds (ps := ["d", "floor", "drawing", "spare"]) fun _ _ _ _ _ _ us hl => us4 (Q := fun us => bindArgs _ ⟨us, []⟩ = pure (List.zip _ us)) (fun _ _ _ _ => rfl) us hl
  have F12 := fun_mk (st := s_drawings) l12 c12 k12
  have B12 := F12.binds (ps := ["d", "k"]) fun _ _ _ _ _ _ us hl => us2 (Q := fun us => bindArgs _ ⟨us, []⟩ = pure (List.zip _ us)) (fun _ _ => rfl) us hl
  have F13 := fun_mk (st := s_parts) l13 c13 k13
  have B13 := F13.binds (ps := ["d", "drawing"]) fun _ _ _ _ _ _ us hl => us2 (Q := fun us => bindArgs _ ⟨us, []⟩ = pure (List.zip _ us)) (fun _ _ => rfl) us hl
  have F14 := fun_mk (st := s_worth) l14 c14 k14
  have B14 := F14.binds (ps := ["drawing"]) fun _ _ _ _ _ _ us hl => us1 (Q := fun us => bindArgs _ ⟨us, []⟩ = pure (List.zip _ us)) (fun _ => rfl) us hl
  have F15 := fun_mk (st := s_choose) l15 c15 k15
  have B15 := F15.binds (ps := ["number", "chosen"]) fun _ _ _ _ _ _ us hl => us2 (Q := fun us => bindArgs _ ⟨us, []⟩ = pure (List.zip _ us)) (fun _ _ => rfl) us hl
  have F16 := fun_mk (st := s_with_more) l16 c16 k16
  have B16 := F16.binds (ps := ["numbers", "place", "more"]) fun _ _ _ _ _ _ us hl => us3 (Q := fun us => bindArgs _ ⟨us, []⟩ = pure (List.zip _ us)) (fun _ _ _ => rfl) us hl
  have F17 := fun_mk (st := s_need_sound) l17 c17 k17
  have B17 := F17.binds (ps := ["d", "drawing"]) fun _ _ _ _ _ _ us hl => us2 (Q := fun us => bindArgs _ ⟨us, []⟩ = pure (List.zip _ us)) (fun _ _ => rfl) us hl
  have F18 := fun_mk (st := s_end_marks) l18 c18 k18
  have B18 := F18.binds (ps := ["d", "drawing"]) fun _ _ _ _ _ _ us hl => us2 (Q := fun us => bindArgs _ ⟨us, []⟩ = pure (List.zip _ us)) (fun _ _ => rfl) us hl
  have F19 := fun_mk (st := s_put_between) l19 c19 k19
  have B19 := F19.binds (ps := ["numbers", "first", "last", "alike"]) fun _ _ _ _ _ _ us hl => us4 (Q := fun us => bindArgs _ ⟨us, []⟩ = pure (List.zip _ us)) (fun _ _ _ _ => rfl) us hl
  have F20 := fun_mk (st := s_how_many_orders) l20 c20 k20
  have B20 := F20.binds (ps := ["d", "marks"]) fun _ _ _ _ _ _ us hl => us2 (Q := fun us => bindArgs _ ⟨us, []⟩ = pure (List.zip _ us)) (fun _ _ => rfl) us hl
  have F21 := fun_mk (st := s_how_many) l21 c21 k21
  have B21 := F21.binds (ps := ["d", "drawing"]) fun _ _ _ _ _ _ us hl => us2 (Q := fun us => bindArgs _ ⟨us, []⟩ = pure (List.zip _ us)) (fun _ _ => rfl) us hl
  have F22 := fun_mk (st := s_may_stand) l22 c22 k22
  have B22 := F22.binds (ps := ["mark", "floor", "waiting"]) fun _ _ _ _ _ _ us hl => us3 (Q := fun us => bindArgs _ ⟨us, []⟩ = pure (List.zip _ us)) (fun _ _ _ => rfl) us hl
  have F23 := fun_mk (st := s_without_first) l23 c23 k23
  have B23 := F23.binds (ps := ["waiting", "mark"]) fun _ _ _ _ _ _ us hl => us2 (Q := fun us => bindArgs _ ⟨us, []⟩ = pure (List.zip _ us)) (fun _ _ => rfl) us hl
  have F24 := fun_mk (st := s_orders) l24 c24 k24
  have B24 := F24.binds (ps := ["floor", "waiting"]) fun _ _ _ _ _ _ us hl => us2 (Q := fun us => bindArgs _ ⟨us, []⟩ = pure (List.zip _ us)) (fun _ _ => rfl) us hl
  have F25 := fun_mk (st := s_all_marks) l25 c25 k25
  have B25 := F25.binds (ps := ["d", "drawing"]) fun _ _ _ _ _ _ us hl => us2 (Q := fun us => bindArgs _ ⟨us, []⟩ = pure (List.zip _ us)) (fun _ _ => rfl) us hl
  have F26 := fun_mk (st := s_markings) l26 c26 k26
  have B26 := F26.binds (ps := ["d", "drawing"]) fun _ _ _ _ _ _ us hl => us2 (Q := fun us => bindArgs _ ⟨us, []⟩ = pure (List.zip _ us)) (fun _ _ => rfl) us hl
  have F27 := fun_mk (st := s_count_by_floors) l27 c27 k27
  have B27 := F27.binds (ps := ["d", "k"]) fun _ _ _ _ _ _ us hl => us2 (Q := fun us => bindArgs _ ⟨us, []⟩ = pure (List.zip _ us)) (fun _ _ => rfl) us hl
  have F28 := fun_mk (st := s_whole_by_floors) l28 c28 k28
  have B28 := F28.binds (ps := ["d", "k"]) fun _ _ _ _ _ _ us hl => us2 (Q := fun us => bindArgs _ ⟨us, []⟩ = pure (List.zip _ us)) (fun _ _ => rfl) us hl
  have F29 := fun_mk (st := s_paper) l29 c29 k29
  have B29 := F29.binds (ps := ["d", "k"]) fun _ _ _ _ _ _ us hl => us2 (Q := fun us => bindArgs _ ⟨us, []⟩ = pure (List.zip _ us)) (fun _ _ => rfl) us hl
  have F30 := fun_mk (st := s__law_cell_at) l30 c30 k30
  have B30 := F30.binds (ps := ["_law_script", "_law_k"]) fun _ _ _ _ _ _ us hl => us2 (Q := fun us => bindArgs _ ⟨us, []⟩ = pure (List.zip _ us)) (fun _ _ => rfl) us hl
  have F31 := fun_mk (st := s__law_bag) l31 c31 k31
  have B31 := F31.binds (ps := ["_law_cell", "_law_place"]) fun _ _ _ _ _ _ us hl => us2 (Q := fun us => bindArgs _ ⟨us, []⟩ = pure (List.zip _ us)) (fun _ _ => rfl) us hl
  have F32 := fun_mk (st := s__law_mixed) l32 c32 k32
  have B32 := F32.binds (ps := ["_law_bag_here"]) fun _ _ _ _ _ _ us hl => us1 (Q := fun us => bindArgs _ ⟨us, []⟩ = pure (List.zip _ us)) (fun _ => rfl) us hl
  have F33 := fun_mk (st := s__law_digit) l33 c33 k33
  have B33 := F33.binds (ps := ["_law_bag_here", "_law_many"]) fun _ _ _ _ _ _ us hl => us2 (Q := fun us => bindArgs _ ⟨us, []⟩ = pure (List.zip _ us)) (fun _ _ => rfl) us hl
  have F34 := fun_mk (st := s__law_ask) l34 c34 k34
  have B34 := F34.binds (ps := ["_law_what", "_law_d", "_law_k"]) fun _ _ _ _ _ _ us hl => us3 (Q := fun us => bindArgs _ ⟨us, []⟩ = pure (List.zip _ us)) (fun _ _ _ => rfl) us hl
  have F35 := fun_mk (st := s__law_refused) l35 c35 k35
  have B35 := F35.binds (ps := ["_law_what", "_law_d", "_law_k"]) fun _ _ _ _ _ _ us hl => us3 (Q := fun us => bindArgs _ ⟨us, []⟩ = pure (List.zip _ us)) (fun _ _ _ => rfl) us hl
  have F36 := fun_mk (st := s__law_odd_pair) l36 c36 k36
  have B36 := F36.binds (ps := ["_law_bag_here", "_law_d", "_law_k"]) fun _ _ _ _ _ _ us hl => us3 (Q := fun us => bindArgs _ ⟨us, []⟩ = pure (List.zip _ us)) (fun _ _ _ => rfl) us hl
  have F37 := fun_mk (st := s__law_told) l37 c37 k37
  have B37 := F37.binds (ps := ["_law_what", "_law_d", "_law_k"]) fun _ _ _ _ _ _ us hl => us3 (Q := fun us => bindArgs _ ⟨us, []⟩ = pure (List.zip _ us)) (fun _ _ _ => rfl) us hl
  have F38 := fun_mk (st := s_law) l38 c38 k38
  have B38 := F38.binds (ps := ["_law_script"]) fun _ _ _ _ _ _ us hl => us1 (Q := fun us => bindArgs _ ⟨us, []⟩ = pure (List.zip _ us)) (fun _ => rfl) us hl
  let T : Fns K mg := { f_is_whole := f0, d_is_whole := _, F_is_whole := F0, B_is_whole := B0, m_is_whole := PySem.W.mg_of X G a0, f_need_between := f1, d_need_between := _, F_need_between := F1, B_need_between := B1, m_need_between := PySem.W.mg_of X G a1, f_need_wide := f2, d_need_wide := _, F_need_wide := F2, B_need_wide := B2, m_need_wide := PySem.W.mg_of X G a2, f_need_degree := f3, d_need_degree := _, F_need_degree := F3, B_need_degree := B3, m_need_degree := PySem.W.mg_of X G a3, f_gathered := f4, d_gathered := _, F_gathered := F4, B_gathered := B4, m_gathered := PySem.W.mg_of X G a4, f_how_many_sets := f5, d_how_many_sets := _, F_how_many_sets := F5, B_how_many_sets := B5, m_how_many_sets := PySem.W.mg_of X G a5, f_ends_at := f6, d_ends_at := _, F_ends_at := F6, B_ends_at := B6, m_ends_at := PySem.W.mg_of X G a6, f_sound := f7, d_sound := _, F_sound := F7, B_sound := B7, m_sound := PySem.W.mg_of X G a7, f_lost := f8, d_lost := _, F_lost := F8, B_lost := B8, m_lost := PySem.W.mg_of X G a8, f_lifts_from := f9, d_lifts_from := _, F_lifts_from := F9, B_lifts_from := B9, m_lifts_from := PySem.W.mg_of X G a9, f_leaving := f10, d_leaving := _, F_leaving := F10, B_leaving := B10, m_leaving := PySem.W.mg_of X G a10, f_with_floor := f11, d_with_floor := _, F_with_floor := F11, B_with_floor := B11, m_with_floor := PySem.W.mg_of X G a11, f_drawings := f12, d_drawings := _, F_drawings := F12, B_drawings := B12, m_drawings := PySem.W.mg_of X G a12, f_parts := f13, d_parts := _, F_parts := F13, B_parts := B13, m_parts := PySem.W.mg_of X G a13, f_worth := f14, d_worth := _, F_worth := F14, B_worth := B14, m_worth := PySem.W.mg_of X G a14, f_choose := f15, d_choose := _, F_choose := F15, B_choose := B15, m_choose := PySem.W.mg_of X G a15, f_with_more := f16, d_with_more := _, F_with_more := F16, B_with_more := B16, m_with_more := PySem.W.mg_of X G a16, f_need_sound := f17, d_need_sound := _, F_need_sound := F17, B_need_sound := B17, m_need_sound := PySem.W.mg_of X G a17, f_end_marks := f18, d_end_marks := _, F_end_marks := F18, B_end_marks := B18, m_end_marks := PySem.W.mg_of X G a18, f_put_between := f19, d_put_between := _, F_put_between := F19, B_put_between := B19, m_put_between := PySem.W.mg_of X G a19, f_how_many_orders := f20, d_how_many_orders := _, F_how_many_orders := F20, B_how_many_orders := B20, m_how_many_orders := PySem.W.mg_of X G a20, f_how_many := f21, d_how_many := _, F_how_many := F21, B_how_many := B21, m_how_many := PySem.W.mg_of X G a21, f_may_stand := f22, d_may_stand := _, F_may_stand := F22, B_may_stand := B22, m_may_stand := PySem.W.mg_of X G a22, f_without_first := f23, d_without_first := _, F_without_first := F23, B_without_first := B23, m_without_first := PySem.W.mg_of X G a23, f_orders := f24, d_orders := _, F_orders := F24, B_orders := B24, m_orders := PySem.W.mg_of X G a24, f_all_marks := f25, d_all_marks := _, F_all_marks := F25, B_all_marks := B25, m_all_marks := PySem.W.mg_of X G a25, f_markings := f26, d_markings := _, F_markings := F26, B_markings := B26, m_markings := PySem.W.mg_of X G a26, f_count_by_floors := f27, d_count_by_floors := _, F_count_by_floors := F27, B_count_by_floors := B27, m_count_by_floors := PySem.W.mg_of X G a27, f_whole_by_floors := f28, d_whole_by_floors := _, F_whole_by_floors := F28, B_whole_by_floors := B28, m_whole_by_floors := PySem.W.mg_of X G a28, f_paper := f29, d_paper := _, F_paper := F29, B_paper := B29, m_paper := PySem.W.mg_of X G a29, f__law_cell_at := f30, d__law_cell_at := _, F__law_cell_at := F30, B__law_cell_at := B30, m__law_cell_at := PySem.W.mg_of X G a30, f__law_bag := f31, d__law_bag := _, F__law_bag := F31, B__law_bag := B31, m__law_bag := PySem.W.mg_of X G a31, f__law_mixed := f32, d__law_mixed := _, F__law_mixed := F32, B__law_mixed := B32, m__law_mixed := PySem.W.mg_of X G a32, f__law_digit := f33, d__law_digit := _, F__law_digit := F33, B__law_digit := B33, m__law_digit := PySem.W.mg_of X G a33, f__law_ask := f34, d__law_ask := _, F__law_ask := F34, B__law_ask := B34, m__law_ask := PySem.W.mg_of X G a34, f__law_refused := f35, d__law_refused := _, F__law_refused := F35, B__law_refused := B35, m__law_refused := PySem.W.mg_of X G a35, f__law_odd_pair := f36, d__law_odd_pair := _, F__law_odd_pair := F36, B__law_odd_pair := B36, m__law_odd_pair := PySem.W.mg_of X G a36, f__law_told := f37, d__law_told := _, F__law_told := F37, B__law_told := B37, m__law_told := PySem.W.mg_of X G a37, f_law := fa, d_law := _, F_law := F38, B_law := B38, m_law := PySem.W.mg_of X G a38, n_isinstance := PySem.W.mg_none_of X G z0, n_int := PySem.W.mg_none_of X G z1, n_bool := PySem.W.mg_none_of X G z2, n_len := PySem.W.mg_none_of X G z3, n_min := PySem.W.mg_none_of X G z4, n_range := PySem.W.mg_none_of X G z5, n_enumerate := PySem.W.mg_none_of X G z6, n_sum := PySem.W.mg_none_of X G z7, n_sorted := PySem.W.mg_none_of X G z8, n_list := PySem.W.mg_none_of X G z9, n_tuple := PySem.W.mg_none_of X G z10, n_set := PySem.W.mg_none_of X G z11, n_any := PySem.W.mg_none_of X G z12, n_abs := PySem.W.mg_none_of X G z13, n_ValueError := PySem.W.mg_none_of X G z14, a_WIDE := A_WIDE, m_WIDE := PySem.W.mg_of X G da_WIDE, D_WIDE := dt_WIDE, c_NoBound := C_NoBound, m_NoBound := PySem.W.mg_of X G ca_NoBound, c_NoDrawing := C_NoDrawing, m_NoDrawing := PySem.W.mg_of X G ca_NoDrawing, c_CurveError := C_CurveError, m_CurveError := PySem.W.mg_of X G ca_CurveError, c_NoEnds := C_NoEnds, m_NoEnds := PySem.W.mg_of X G ca_NoEnds, c_NoNumber := C_NoNumber, m_NoNumber := PySem.W.mg_of X G ca_NoNumber, c_NoText := C_NoText, m_NoText := PySem.W.mg_of X G ca_NoText, x_NoBound := cx_NoBound, X_NoBound := ⟨xc_NoBound_cl, xc_NoBound_ga, xc_NoBound_gt, xc_NoBound_ca, xc_NoBound_gn, xc_NoBound_tk, xc_NoBound_ob, xc_NoBound_be⟩, x_NoDrawing := cx_NoDrawing, X_NoDrawing := ⟨xc_NoDrawing_cl, xc_NoDrawing_ga, xc_NoDrawing_gt, xc_NoDrawing_ca, xc_NoDrawing_gn, xc_NoDrawing_tk, xc_NoDrawing_ob, xc_NoDrawing_be⟩, e_NoBound_CurveError := ce_NoBound_CurveError, e_NoDrawing_CurveError := ce_NoDrawing_CurveError, k_NoBound_NoBound := ck_NoBound_NoBound, k_NoBound_ValueError := ck_NoBound_ValueError, k_NoDrawing_NoBound := ck_NoDrawing_NoBound, k_NoDrawing_ValueError := ck_NoDrawing_ValueError, ks_NoBound_0 := cs_NoBound_0, ks_NoDrawing_1 := cs_NoDrawing_1 }
  exact ⟨PySem.W.fnOf "law" "law" (defArgs s_law) (defBody s_law) (defScope s_law) .none kV38 dc38 pm38 an38 cd38 ct38, fun s v => .of_eq rfl, fun base _ _ => ok_law T⟩
theorem walk {l : PySem.W.OpenLaw} {q : Program} {loose : List Str} {XP : (Str → Option Value) → Heap → Prop} {YP : World → Heap → Prop} {d : DefRec} {K : Params → PySem.W.Frag} (hn : l.most = some 63) (hdf : d.params.defaults = [])
    (hY : ∀ (w : World) (h : Heap), YP w h → (K w.params).In h)
    (F : ∀ (w : World) (mg : Str → Option Value) (fa : Addr) (h : Heap), (K w.params).In h → h.Ns mainGlobals mg → mg d.name = some (.ref fa) →
      ∃ fd : FuncData, (∀ (s : Shared) (u : Value), BindsTo s fd ⟨[u], []⟩ [("_law_script", u)]) ∧ ∀ base : Heap, (K w.params).In base → base.Ns mainGlobals mg → FnOk l.prog w (K w.params) mg base CX0 15 fa fd ["_law_script"] (sp_law (K w.params))) :
    PySem.W.WalkO q loose XP YP l.row.toRowW d [] (fun f vs => PySem.call f vs) :=
  L2.walk_of (n := 63) (k := 15) (x := "_law_script") (CX := fun _ => CX0) (sp := fun w => sp_law (K w.params)) hn (by decide) hdf ⟨rfl, by decide, by decide⟩ hY F (fun _ _ a ns hl _ hS => ⟨a, ns, rfl, hS, hl, fun _ => rfl⟩) fun _ _ _ _ _ z => z
end Mine
open PySem PySem.W PyProof.Rows
theorem PySem.W.Fast.tw3220615655379860681 : True := trivial
theorem PySem.W.Fast.tw10397341194977999082 : True := trivial
theorem PySem.W.Fast.tw8776298555771887386 : True := trivial
theorem PySem.W.Fast.tw16865960314192743603 : True := trivial
theorem PySem.W.Fast.tw5775880609537057170 : True := trivial
theorem PySem.W.Fast.tw6946324594960279327 : True := trivial
theorem PySem.W.Fast.tw9486912535469380335 : True := trivial
theorem PySem.W.Fast.tw2603704711100000316 : True := trivial
theorem PySem.W.Fast.tw16912869672239772359 : True := trivial
theorem PySem.W.Fast.tw7657274045667081990 : True := trivial
theorem PySem.W.Fast.tw3152513589833186986 : True := trivial
theorem PySem.W.Fast.tw4765866692546470587 : True := trivial
theorem PySem.W.Fast.tw3317598303105401070 : True := trivial
theorem PySem.W.Fast.tw16792663324971909455 : True := trivial
theorem PySem.W.Fast.tw12986437933993455069 : True := trivial
theorem PySem.W.Fast.tw3778311408590935095 : True := trivial
theorem PySem.W.Fast.tw8306078481271093938 : True := trivial
theorem PySem.W.Fast.tw16175713703757930438 : True := trivial
theorem PySem.W.Fast.tw10467167349301220134 : True := trivial
theorem PySem.W.Fast.tw7413509864759955456 : True := trivial
theorem PySem.W.Fast.tw6178361872873593649 : True := trivial
theorem PySem.W.Fast.tw14382191541906511850 : True := trivial
theorem PySem.W.Fast.tw14064397233369201135 : True := trivial
theorem PySem.W.Fast.tw3442675691688050910 : True := trivial
theorem PySem.W.Fast.tw131284442470457652 : True := trivial
theorem PySem.W.Fast.tw5187953393375557711 : True := trivial
theorem PySem.W.Fast.tw2643891479029150382 : True := trivial
theorem PySem.W.Fast.tw419564678450843630 : True := trivial
theorem PySem.W.Fast.tw10956964754160695516 : True := trivial
theorem PySem.W.Fast.tw14041179560130502830 : True := trivial
theorem PySem.W.Fast.tw8866126631889178575 : True := trivial
theorem PySem.W.Fast.tw4497944211121393811 : True := trivial
theorem PySem.W.Fast.tw13358143604986350147 : True := trivial
theorem PySem.W.Fast.tw11968660779192373819 : True := trivial
theorem PySem.W.Fast.tw15281105686259114341 : True := trivial
theorem PySem.W.Fast.tw5644769977428824992 : True := trivial
theorem PySem.W.Fast.tw18114944952005262676 : True := trivial
theorem PySem.W.Fast.tw12810313386235027449 : True := trivial
theorem PySem.W.Fast.tw8851323048507399973 : True := trivial
theorem PySem.W.Fast.tw17033376062497283941 : True := trivial
theorem PySem.W.Fast.tw4515919509257826733 : True := trivial
theorem PySem.W.Fast.tw12970523850767309504 : True := trivial
theorem PySem.W.Fast.tw6049729476155613443 : True := trivial
theorem PySem.W.Fast.tw10304445755626614761 : True := trivial
theorem PySem.W.Fast.tw12994428731808370132 : True := trivial
theorem PySem.W.Fast.tw7617453849800417791 : True := trivial
theorem PySem.W.Fast.tw879083345201644499 : True := trivial
theorem PySem.W.Fast.tw7877807763332223739 : True := trivial
theorem PySem.W.Fast.tw17110704114571150592 : True := trivial
theorem PySem.W.Fast.tw10377395929925795304 : True := trivial
theorem PySem.W.Fast.tw11067533446103858824 : True := trivial
theorem PySem.W.Fast.tw2534645774013631653 : True := trivial
theorem PySem.W.Fast.tw2954205878227843811 : True := trivial
theorem PySem.W.Fast.tw7006503862410127758 : True := trivial
theorem PySem.W.Fast.tw5565189178821129018 : True := trivial
theorem PySem.W.Fast.tw17066997695310079311 : True := trivial
theorem PySem.W.Fast.tw7112258227715519731 : True := trivial
theorem PySem.W.Fast.tw14773146624608928511 : True := trivial
theorem PySem.W.Fast.tw3041456586199023175 : True := trivial
theorem PySem.W.Fast.tw148552986335049556 : True := trivial
theorem PySem.W.Fast.tw8052509465822921450 : True := trivial
theorem PySem.W.Fast.tw2153088127058080624 : True := trivial
theorem PySem.W.Fast.tw15957477752476173138 : True := trivial
theorem PySem.W.Fast.tw17378195648085505203 : True := trivial
theorem PySem.W.Fast.tw4891298945549540429 : True := trivial
theorem PySem.W.Fast.tw16553648700840863123 : True := trivial
theorem PySem.W.Fast.tw12419980686074452270 : True := trivial
theorem PySem.W.Fast.tw141513696565433722 : True := trivial
theorem PySem.W.Fast.tw14391666554458826960 : True := trivial
theorem PySem.W.Fast.tw4387630883656558574 : True := trivial
theorem PySem.W.Fast.tw7788511279904507353 : True := trivial
theorem PySem.W.Fast.tw8926391936513398065 : True := trivial
theorem PySem.W.Fast.tw4260652213707799691 : True := trivial
theorem PySem.W.Fast.tw8616111130231049902 : True := trivial
theorem PySem.W.Fast.tw7219485889768393111 : True := trivial
theorem PySem.W.Fast.tw2499148379551956699 : True := trivial
theorem PySem.W.Fast.tw6003274130573181163 : True := trivial
theorem PySem.W.Fast.tw16021982793602895111 : True := trivial
theorem PySem.W.Fast.tw10783016437843044736 : True := trivial
theorem PySem.W.Fast.tw15223786240961816332 : True := trivial
theorem PySem.W.Fast.tw17761211815569801067 : True := trivial
theorem PySem.W.Fast.tw13352037977375020188 : True := trivial
theorem PySem.W.Fast.tw602918894955279116 : True := trivial
theorem PySem.W.Fast.tw14103827171614383750 : True := trivial
theorem PySem.W.Fast.tw13869257403332069510 : True := trivial
theorem PySem.W.Fast.tw8520932598823811180 : True := trivial
theorem PySem.W.Fast.tw5830512657676409992 : True := trivial
theorem PySem.W.Fast.tw11931677995916660407 : True := trivial
theorem PySem.W.Fast.tw18361839600901272072 : True := trivial
theorem PySem.W.Fast.tw17757866031237554879 : True := trivial
theorem PySem.W.Fast.tw12691357262880766710 : True := trivial
theorem PySem.W.Fast.tw4516319289007228126 : True := trivial
theorem PySem.W.Fast.tw4756508818250335224 : True := trivial
theorem PySem.W.Fast.tw8004905467334981082 : True := trivial
theorem PySem.W.Fast.tw5954131169363878661 : True := trivial
theorem PySem.W.Fast.tw10315555067575171657 : True := trivial
theorem PySem.W.Fast.tw7527605336354270853 : True := trivial
theorem PySem.W.Fast.tw9881599661910021260 : True := trivial
theorem PySem.W.Fast.tw5058267452735835312 : True := trivial
theorem PySem.W.Fast.tw18204524908543721210 : True := trivial
theorem PySem.W.Fast.tw1147670836330803185 : True := trivial
theorem PySem.W.Fast.tw940542552838361830 : True := trivial
theorem PySem.W.Fast.tw17978902263996055650 : True := trivial
theorem PySem.W.Fast.tw1604653186698540084 : True := trivial
theorem PySem.W.Fast.tw1572272295333530621 : True := trivial
theorem PySem.W.Fast.tw8150433789361914820 : True := trivial
theorem PySem.W.Fast.tw18373948943598085848 : True := trivial
theorem PySem.W.Fast.tw18337263108575910961 : True := trivial
theorem PySem.W.Fast.tw442102208638232430 : True := trivial
theorem PySem.W.Fast.tw6060176524696013058 : True := trivial
theorem PySem.W.Fast.tw13830464615280047693 : True := trivial
theorem PySem.W.Fast.tw180172309834778240 : True := trivial
theorem PySem.W.Fast.tw15533448757428967415 : True := trivial
theorem PySem.W.Fast.tw7979370401362674654 : True := trivial
theorem PySem.W.Fast.tw13888963154498570287 : True := trivial
theorem PySem.W.Fast.tw6593784642589110568 : True := trivial
theorem PySem.W.Fast.tw8690070801592547810 : True := trivial
theorem PySem.W.Fast.tw18204413440310779792 : True := trivial
theorem PySem.W.Fast.tw5697289351383286073 : True := trivial
theorem PySem.W.Fast.tw14943361546657776634 : True := trivial
theorem PySem.W.Fast.tw16641225758489903248 : True := trivial
theorem PySem.W.Fast.tw18111642767951250149 : True := trivial
theorem PySem.W.Fast.tw8970531717730389608 : True := trivial
theorem PySem.W.Fast.tw17933160333706107626 : True := trivial
theorem PySem.W.Fast.tw13051262917080008584 : True := trivial
theorem PySem.W.Fast.tw10923031879534336378 : True := trivial
theorem PySem.W.Fast.tw5760053354087397338 : True := trivial
theorem PySem.W.Fast.tw8584780414622106996 : True := trivial
theorem PySem.W.Fast.tw766821155870067575 : True := trivial
theorem PySem.W.Fast.tw5747283639334829174 : True := trivial
theorem PySem.W.Fast.tw14127733657572327357 : True := trivial
theorem PySem.W.Fast.tw5355093746325821937 : True := trivial
theorem PySem.W.Fast.tw1585566828697575363 : True := trivial
theorem PySem.W.Fast.tw5228132744114590573 : True := trivial
theorem PySem.W.Fast.tw10964282695081617603 : True := trivial
theorem PySem.W.Fast.tw11190264888704920958 : True := trivial
theorem PySem.W.Fast.tw15774185385021983392 : True := trivial
theorem PySem.W.Fast.tw3784103590312562293 : True := trivial
theorem PySem.W.Fast.tw17337801724783541527 : True := trivial
theorem PySem.W.Fast.tw6187536477787066614 : True := trivial
theorem PySem.W.Fast.tw17807504839534864341 : True := trivial
theorem PySem.W.Fast.tw16777699826063613607 : True := trivial
theorem PySem.W.Fast.tw422552420855419664 : True := trivial
theorem PySem.W.Fast.tw3718743021632567593 : True := trivial
theorem PySem.W.Fast.tw16969123297533352128 : True := trivial
theorem PySem.W.Fast.tw494000165114832627 : True := trivial
theorem PySem.W.Fast.tw6823051663378450661 : True := trivial
theorem PySem.W.Fast.tw13471427090336675834 : True := trivial
theorem PySem.W.Fast.tw2404353710707034044 : True := trivial
theorem PySem.W.Fast.tw12943144914236919359 : True := trivial
theorem PySem.W.Fast.tw877867058577162495 : True := trivial
theorem PySem.W.Fast.tw13376785183505982630 : True := trivial
theorem PySem.W.Fast.tw12303812696686488473 : True := trivial
theorem PySem.W.Fast.tw11021854213191086505 : True := trivial
theorem PySem.W.Fast.tw2864690128639298596 : True := trivial
theorem PySem.W.Fast.tw437438077604063206 : True := trivial
theorem PySem.W.Fast.tw11866715542356614043 : True := trivial
theorem PySem.W.Fast.tw2412191482626143501 : True := trivial
theorem PySem.W.Fast.tw12298053692838365321 : True := trivial
theorem PySem.W.Fast.tw13066758815766708950 : True := trivial
theorem PySem.W.Fast.tw12802534765657232737 : True := trivial
theorem PySem.W.Fast.tw4032785247084796019 : True := trivial
theorem PySem.W.Fast.tw13390092585986419902 : True := trivial
theorem PySem.W.Fast.tw17057640034571086873 : True := trivial
theorem PySem.W.Fast.tw4967515162132503066 : True := trivial
theorem PySem.W.Fast.tw16620826483037383475 : True := trivial
theorem PySem.W.Fast.tw14029954860124772888 : True := trivial
theorem PySem.W.Fast.tw16088234877537400432 : True := trivial
theorem PySem.W.Fast.tw9767349898619615534 : True := trivial
theorem PySem.W.Fast.tw12217179994381634154 : True := trivial
theorem PySem.W.Fast.tw389650689107142349 : True := trivial
theorem PySem.W.Fast.tw552360257975322595 : True := trivial
theorem PySem.W.Fast.tw16637045011801156333 : True := trivial
theorem PySem.W.Fast.tw16663256920330530088 : True := trivial
theorem PySem.W.Fast.tw17364106154642509877 : True := trivial
theorem PySem.W.Fast.tw6395032237964420405 : True := trivial
theorem PySem.W.Fast.tw11080892044400308032 : True := trivial
theorem PySem.W.Fast.tw12816997863895294335 : True := trivial
theorem PySem.W.Fast.tw15932582172096728284 : True := trivial
theorem PySem.W.Fast.tw12114467268846883239 : True := trivial
theorem PySem.W.Fast.tw11448585111487804974 : True := trivial
theorem PySem.W.Fast.tw390832938328378731 : True := trivial
theorem PySem.W.Fast.tw17024488667815607424 : True := trivial
theorem PySem.W.Fast.tw13879094335751483388 : True := trivial
theorem PySem.W.Fast.tw11722031676889729967 : True := trivial
theorem PySem.W.Fast.tw10729645590562324118 : True := trivial
theorem PySem.W.Fast.tw14125609408586873046 : True := trivial
theorem PySem.W.Fast.tw16644214752206209537 : True := trivial
theorem PySem.W.Fast.tw8905419394694971281 : True := trivial
theorem PySem.W.Fast.tw11963080300947537430 : True := trivial
theorem PySem.W.Fast.tw11586519637695598017 : True := trivial
theorem PySem.W.Fast.tw11234466697659635470 : True := trivial
theorem PySem.W.Fast.tw5043899560794833712 : True := trivial
theorem PySem.W.Fast.tw5775985900161212358 : True := trivial
theorem PySem.W.Fast.tw15781206640685749957 : True := trivial
theorem PySem.W.Fast.tw12663787364849847137 : True := trivial
theorem PySem.W.Fast.tw3227519755909945105 : True := trivial
theorem PySem.W.Fast.tw3851127570927863015 : True := trivial
theorem PySem.W.Fast.tw13971707312475304224 : True := trivial
theorem PySem.W.Fast.tw8439366529382845497 : True := trivial
theorem PySem.W.Fast.tw310054209809161679 : True := trivial
theorem PySem.W.Fast.tw2695668881847570525 : True := trivial
theorem PySem.W.Fast.tw4953646110469920100 : True := trivial
theorem PySem.W.Fast.tw460541842202118589 : True := trivial
theorem PySem.W.Fast.tw11104364207794968403 : True := trivial
theorem PySem.W.Fast.tw11941085299450526627 : True := trivial
theorem PySem.W.Fast.tw16596762799399664764 : True := trivial
theorem PySem.W.Fast.tw2670583379647837490 : True := trivial
theorem PySem.W.Fast.tw13915103313022740139 : True := trivial
theorem PySem.W.Fast.tw11166716893451298382 : True := trivial
theorem PySem.W.Fast.tw14849562889424671518 : True := trivial
theorem PySem.W.Fast.tw2617912167462698921 : True := trivial
theorem PySem.W.Fast.tw10455577931248474880 : True := trivial
theorem PySem.W.Fast.tw6311947194714114574 : True := trivial
theorem PySem.W.Fast.tw10347963680684776291 : True := trivial
theorem PySem.W.Fast.tw961892020083688698 : True := trivial
theorem PySem.W.Fast.tw13201779020156895808 : True := trivial
theorem PySem.W.Fast.tw3640549257392338197 : True := trivial
theorem PySem.W.Fast.tw4355394040022248890 : True := trivial
theorem PySem.W.Fast.tw16889310359023537190 : True := trivial
theorem PySem.W.Fast.tw11544961015070518074 : True := trivial
theorem PySem.W.Fast.tw11163290098837768568 : True := trivial
theorem PySem.W.Fast.tw15000733307073417675 : True := trivial
theorem PySem.W.Fast.tw9787952223599394607 : True := trivial
theorem PySem.W.Fast.tw10263703915649376393 : True := trivial
theorem PySem.W.Fast.tw12473842498317618279 : True := trivial
theorem PySem.W.Fast.tw10064719092735517731 : True := trivial
theorem PySem.W.Fast.tw6526431137153828600 : True := trivial
theorem PySem.W.Fast.tw9548768509514148159 : True := trivial
theorem PySem.W.Fast.tw4888579105396575814 : True := trivial
theorem PySem.W.Fast.tw5276284243771552955 : True := trivial
theorem PySem.W.Fast.tw12927991347751065415 : True := trivial
theorem PySem.W.Fast.tw1637060651738894776 : True := trivial
theorem PySem.W.Fast.tw6860773125937877659 : True := trivial
theorem PySem.W.Fast.tw8795753568842788041 : True := trivial
theorem PySem.W.Fast.tw17484767432380292670 : True := trivial
theorem PySem.W.Fast.tw11755882345295045875 : True := trivial
theorem PySem.W.Fast.tw786142406346861988 : True := trivial
theorem PySem.W.Fast.tw14782479096863486345 : True := trivial
theorem PySem.W.Fast.tw6337742460105583917 : True := trivial
theorem PySem.W.Fast.tw13025373995309442064 : True := trivial
theorem PySem.W.Fast.tw13265377424360910952 : True := trivial
theorem PySem.W.Fast.tw9497647069069640674 : True := trivial
theorem PySem.W.Fast.tw12963143497615437140 : True := trivial
theorem PySem.W.Fast.tw5935448271161697181 : True := trivial
theorem PySem.W.Fast.tw441093917695101179 : True := trivial
theorem PySem.W.Fast.tw2919055491225944220 : True := trivial
theorem PySem.W.Fast.tw5069450651305830866 : True := trivial
theorem PySem.W.Fast.tw3540805111254936694 : True := trivial
theorem PySem.W.Fast.tw14191867989565748118 : True := trivial
theorem PySem.W.Fast.tw15248180806588465272 : True := trivial
theorem PySem.W.Fast.tw10128920100695446554 : True := trivial
theorem PySem.W.Fast.tw8320299825585243405 : True := trivial
theorem PySem.W.Fast.tw12432968023898843287 : True := trivial
theorem PySem.W.Fast.tw10479455418648488212 : True := trivial
theorem PySem.W.Fast.tw1549272083536873978 : True := trivial
theorem PySem.W.Fast.tw10839642685563103105 : True := trivial
theorem PySem.W.Fast.tw16771295287942920846 : True := trivial
theorem PySem.W.Fast.tw18397067574614730406 : True := trivial
theorem PySem.W.Fast.tw3523117668075054290 : True := trivial
theorem PySem.W.Fast.tw3400892487792590364 : True := trivial
theorem PySem.W.Fast.tw13989448994319447727 : True := trivial
theorem PySem.W.Fast.tw8973119221161770661 : True := trivial
theorem PySem.W.Fast.tw11966655749372874698 : True := trivial
theorem PySem.W.Fast.tw6649396030308898211 : True := trivial
theorem PySem.W.Fast.tw8276886321257334590 : True := trivial
theorem PySem.W.Fast.tw5411643999236812170 : True := trivial
theorem PySem.W.Fast.tw11640619630599129453 : True := trivial
theorem PySem.W.Fast.tw5538004952609254037 : True := trivial
theorem PySem.W.Fast.tw6427350493968696685 : True := trivial
theorem PySem.W.Fast.tw9900561229911703276 : True := trivial
theorem PySem.W.Fast.tw1361364814175154152 : True := trivial
theorem PySem.W.Fast.tw6036349288317116579 : True := trivial
theorem PySem.W.Fast.tw9773012684059352247 : True := trivial
theorem PySem.W.Fast.tw4113322044839829682 : True := trivial
theorem PySem.W.Fast.tw7924519902612072061 : True := trivial
theorem PySem.W.Fast.tw9226428061276599397 : True := trivial
theorem PySem.W.Fast.tw16200409929829726688 : True := trivial
theorem PySem.W.Fast.tw2233332385144038320 : True := trivial
theorem PySem.W.Fast.tw13096085463254959089 : True := trivial
theorem PySem.W.Fast.tw12954526494300083461 : True := trivial
theorem PySem.W.Fast.tw2201613981732371438 : True := trivial
theorem PySem.W.Fast.tw5687203616507011012 : True := trivial
theorem PySem.W.Fast.tw6633441894863242609 : True := trivial
theorem PySem.W.Fast.tw12064653271082284028 : True := trivial
theorem PySem.W.Fast.tw15101060086910870660 : True := trivial
theorem PySem.W.Fast.tw671416208705418880 : True := trivial
theorem PySem.W.Fast.tw2189097664399001362 : True := trivial
theorem PySem.W.Fast.tw13259369176912834968 : True := trivial
theorem PySem.W.Fast.tw152178165047598955 : True := trivial
theorem PySem.W.Fast.tw5328938992347324940 : True := trivial
theorem PySem.W.Fast.tw18048307312494271327 : True := trivial
theorem PySem.W.Fast.tw1725142415453291217 : True := trivial
theorem PySem.W.Fast.tw13353013105879381486 : True := trivial
theorem PySem.W.Fast.tw17150557172252707868 : True := trivial
theorem PySem.W.Fast.tw13074286705002946532 : True := trivial
theorem PySem.W.Fast.tw11245298551075182079 : True := trivial
theorem PySem.W.Fast.tw10659556558030574603 : True := trivial
theorem PySem.W.Fast.tw5575193156607182202 : True := trivial
theorem PySem.W.Fast.tw17456629023119190633 : True := trivial
theorem PySem.W.Fast.tw8849107687563434531 : True := trivial
theorem PySem.W.Fast.tw13114978349444058693 : True := trivial
theorem PySem.W.Fast.tw7747884798308135314 : True := trivial
theorem PySem.W.Fast.tw14982520481898113019 : True := trivial
theorem PySem.W.Fast.tw9650127000220516947 : True := trivial
theorem PySem.W.Fast.tw3139533633808393391 : True := trivial
theorem PySem.W.Fast.tw5602468792198894239 : True := trivial
theorem PySem.W.Fast.tw3370269533149640863 : True := trivial
theorem PySem.W.Fast.tw8459673500656197889 : True := trivial
theorem PySem.W.Fast.tw10621000226737463553 : True := trivial
theorem PySem.W.Fast.tw16063409373879169607 : True := trivial
theorem PySem.W.Fast.tw688065667642989895 : True := trivial
theorem PySem.W.Fast.tw5203898471545957142 : True := trivial
theorem PySem.W.Fast.tw1910706772318193550 : True := trivial
theorem PySem.W.Fast.tw530268219500924151 : True := trivial
theorem PySem.W.Fast.tw6839093028520221783 : True := trivial
theorem PySem.W.Fast.tw3740683900607844084 : True := trivial
theorem PySem.W.Fast.tw5459737323744704241 : True := trivial
theorem PySem.W.Fast.tw10995583363574093127 : True := trivial
theorem PySem.W.Fast.tw1981610596408036783 : True := trivial
theorem PySem.W.Fast.tw18200992868902689711 : True := trivial
theorem PySem.W.Fast.tw7365284055904558006 : True := trivial
theorem PySem.W.Fast.tw5645182645068160453 : True := trivial
theorem PySem.W.Fast.tw15864880018568888453 : True := trivial
theorem PySem.W.Fast.tw12361449059672990430 : True := trivial
theorem PySem.W.Fast.tw201077356465108918 : True := trivial
theorem PySem.W.Fast.tw14405087055830508375 : True := trivial
set_option maxRecDepth 100000 in
set_option maxHeartbeats 0 in
theorem PySem.Challenge.cw_floorcurves_k34_beyond_the_wide_bounds_holds : PySem.Challenge.rw_floorcurves_k34_beyond_the_wide_bounds.Holds := by
  w_on; o_law; k_head; (case hw => w_witness2)
  k_fill
  refine Mine.walk (l := PySem.Challenge.rw_floorcurves_k34_beyond_the_wide_bounds) rfl rfl (fun w h Y => PySem.W.kIn_of Y) ?F
  case F =>
    intro w mg fa h KX G hmg
    refine' Mine.all_mk KX G hmg ?a0 ?l0 ?c0 ?k0 ?a1 ?l1 ?c1 ?k1 ?a2 ?l2 ?c2 ?k2 ?a3 ?l3 ?c3 ?k3 ?a4 ?l4 ?c4 ?k4 ?a5 ?l5 ?c5 ?k5 ?a6 ?l6 ?c6 ?k6 ?a7 ?l7 ?c7 ?k7 ?a8 ?l8 ?c8 ?k8 ?a9 ?l9 ?c9 ?k9 ?a10 ?l10 ?c10 ?k10 ?a11 ?l11 ?c11 ?k11 ?a12 ?l12 ?c12 ?k12 ?a13 ?l13 ?c13 ?k13 ?a14 ?l14 ?c14 ?k14 ?a15 ?l15 ?c15 ?k15 ?a16 ?l16 ?c16 ?k16 ?a17 ?l17 ?c17 ?k17 ?a18 ?l18 ?c18 ?k18 ?a19 ?l19 ?c19 ?k19 ?a20 ?l20 ?c20 ?k20 ?a21 ?l21 ?c21 ?k21 ?a22 ?l22 ?c22 ?k22 ?a23 ?l23 ?c23 ?k23 ?a24 ?l24 ?c24 ?k24 ?a25 ?l25 ?c25 ?k25 ?a26 ?l26 ?c26 ?k26 ?a27 ?l27 ?c27 ?k27 ?a28 ?l28 ?c28 ?k28 ?a29 ?l29 ?c29 ?k29 ?a30 ?l30 ?c30 ?k30 ?a31 ?l31 ?c31 ?k31 ?a32 ?l32 ?c32 ?k32 ?a33 ?l33 ?c33 ?k33 ?a34 ?l34 ?c34 ?k34 ?a35 ?l35 ?c35 ?k35 ?a36 ?l36 ?c36 ?k36 ?a37 ?l37 ?c37 ?k37 ?a38 ?l38 ?c38 ?k38 ?z0 ?z1 ?z2 ?z3 ?z4 ?z5 ?z6 ?z7 ?z8 ?z9 ?z10 ?z11 ?z12 ?z13 ?z14 ?da_WIDE ?dt_WIDE ?ca_NoBound ?ca_NoDrawing ?ca_CurveError ?ca_NoEnds ?ca_NoNumber ?ca_NoText ?cx_NoBound ?xc_NoBound_cl ?xc_NoBound_ga ?xc_NoBound_gt ?xc_NoBound_ca ?xc_NoBound_gn ?xc_NoBound_tk ?xc_NoBound_ob ?xc_NoBound_be ?cx_NoDrawing ?xc_NoDrawing_cl ?xc_NoDrawing_ga ?xc_NoDrawing_gt ?xc_NoDrawing_ca ?xc_NoDrawing_gn ?xc_NoDrawing_tk ?xc_NoDrawing_ob ?xc_NoDrawing_be ?ce_NoBound_CurveError ?ce_NoDrawing_CurveError ?ck_NoBound_NoBound ?ck_NoBound_ValueError ?ck_NoDrawing_NoBound ?ck_NoDrawing_ValueError ?cs_NoBound_0 ?cs_NoDrawing_1
    (case a0 => k_is)
    (case l0 => k_is)
    (case c0 => k_is)
    (case k0 => k_is)
    (case a1 => k_is)
    (case l1 => k_is)
    (case c1 => k_is)
    (case k1 => k_is)
    (case a2 => k_is)
    (case l2 => k_is)
    (case c2 => k_is)
    (case k2 => k_is)
    (case a3 => k_is)
    (case l3 => k_is)
    (case c3 => k_is)
    (case k3 => k_is)
    (case a4 => k_is)
    (case l4 => k_is)
    (case c4 => k_is)
    (case k4 => k_is)
    (case a5 => k_is)
    (case l5 => k_is)
    (case c5 => k_is)
    (case k5 => k_is)
    (case a6 => k_is)
    (case l6 => k_is)
    (case c6 => k_is)
    (case k6 => k_is)
    (case a7 => k_is)
    (case l7 => k_is)
    (case c7 => k_is)
    (case k7 => k_is)
    (case a8 => k_is)
    (case l8 => k_is)
    (case c8 => k_is)
    (case k8 => k_is)
    (case a9 => k_is)
    (case l9 => k_is)
    (case c9 => k_is)
    (case k9 => k_is)
    (case a10 => k_is)
    (case l10 => k_is)
    (case c10 => k_is)
    (case k10 => k_is)
    (case a11 => k_is)
    (case l11 => k_is)
    (case c11 => k_is)
    (case k11 => k_is)
    (case a12 => k_is)
    (case l12 => k_is)
    (case c12 => k_is)
    (case k12 => k_is)
    (case a13 => k_is)
    (case l13 => k_is)
    (case c13 => k_is)
    (case k13 => k_is)
    (case a14 => k_is)
    (case l14 => k_is)
    (case c14 => k_is)
    (case k14 => k_is)
    (case a15 => k_is)
    (case l15 => k_is)
    (case c15 => k_is)
    (case k15 => k_is)
    (case a16 => k_is)
    (case l16 => k_is)
    (case c16 => k_is)
    (case k16 => k_is)
    (case a17 => k_is)
    (case l17 => k_is)
    (case c17 => k_is)
    (case k17 => k_is)
    (case a18 => k_is)
    (case l18 => k_is)
    (case c18 => k_is)
    (case k18 => k_is)
    (case a19 => k_is)
    (case l19 => k_is)
    (case c19 => k_is)
    (case k19 => k_is)
    (case a20 => k_is)
    (case l20 => k_is)
    (case c20 => k_is)
    (case k20 => k_is)
    (case a21 => k_is)
    (case l21 => k_is)
    (case c21 => k_is)
    (case k21 => k_is)
    (case a22 => k_is)
    (case l22 => k_is)
    (case c22 => k_is)
    (case k22 => k_is)
    (case a23 => k_is)
    (case l23 => k_is)
    (case c23 => k_is)
    (case k23 => k_is)
    (case a24 => k_is)
    (case l24 => k_is)
    (case c24 => k_is)
    (case k24 => k_is)
    (case a25 => k_is)
    (case l25 => k_is)
    (case c25 => k_is)
    (case k25 => k_is)
    (case a26 => k_is)
    (case l26 => k_is)
    (case c26 => k_is)
    (case k26 => k_is)
    (case a27 => k_is)
    (case l27 => k_is)
    (case c27 => k_is)
    (case k27 => k_is)
    (case a28 => k_is)
    (case l28 => k_is)
    (case c28 => k_is)
    (case k28 => k_is)
    (case a29 => k_is)
    (case l29 => k_is)
    (case c29 => k_is)
    (case k29 => k_is)
    (case a30 => k_is)
    (case l30 => k_is)
    (case c30 => k_is)
    (case k30 => k_is)
    (case a31 => k_is)
    (case l31 => k_is)
    (case c31 => k_is)
    (case k31 => k_is)
    (case a32 => k_is)
    (case l32 => k_is)
    (case c32 => k_is)
    (case k32 => k_is)
    (case a33 => k_is)
    (case l33 => k_is)
    (case c33 => k_is)
    (case k33 => k_is)
    (case a34 => k_is)
    (case l34 => k_is)
    (case c34 => k_is)
    (case k34 => k_is)
    (case a35 => k_is)
    (case l35 => k_is)
    (case c35 => k_is)
    (case k35 => k_is)
    (case a36 => k_is)
    (case l36 => k_is)
    (case c36 => k_is)
    (case k36 => k_is)
    (case a37 => k_is)
    (case l37 => k_is)
    (case c37 => k_is)
    (case k37 => k_is)
    (case a38 => k_is)
    (case l38 => k_is)
    (case c38 => k_is)
    (case k38 => k_is)
    (case z0 => k_is)
    (case z1 => k_is)
    (case z2 => k_is)
    (case z3 => k_is)
    (case z4 => k_is)
    (case z5 => k_is)
    (case z6 => k_is)
    (case z7 => k_is)
    (case z8 => k_is)
    (case z9 => k_is)
    (case z10 => k_is)
    (case z11 => k_is)
    (case z12 => k_is)
    (case z13 => k_is)
    (case z14 => k_is)
    (case da_WIDE => k_is)
    (case dt_WIDE => first | k_is | kit_is | kts_exm | kernel_rfl)
    (case ca_NoBound => first | k_is | kit_is | kts_exm | kernel_rfl)
    (case ca_NoDrawing => first | k_is | kit_is | kts_exm | kernel_rfl)
    (case ca_CurveError => first | k_is | kit_is | kts_exm | kernel_rfl)
    (case ca_NoEnds => first | k_is | kit_is | kts_exm | kernel_rfl)
    (case ca_NoNumber => first | k_is | kit_is | kts_exm | kernel_rfl)
    (case ca_NoText => first | k_is | kit_is | kts_exm | kernel_rfl)
    (case cx_NoBound => first | k_is | kit_is | kts_exm | kernel_rfl)
    (case xc_NoBound_cl => first | k_is | kit_is | kts_exm | kernel_rfl)
    (case xc_NoBound_ga => first | k_is | kit_is | kts_exm | kernel_rfl)
    (case xc_NoBound_gt => first | k_is | kit_is | kts_exm | kernel_rfl)
    (case xc_NoBound_ca => first | k_is | kit_is | kts_exm | kernel_rfl)
    (case xc_NoBound_gn => first | k_is | kit_is | kts_exm | kernel_rfl)
    (case xc_NoBound_tk => first | k_is | kit_is | kts_exm | kernel_rfl)
    (case xc_NoBound_ob => first | k_is | kit_is | kts_exm | kernel_rfl)
    (case xc_NoBound_be => first | k_is | kit_is | kts_exm | kernel_rfl)
    (case cx_NoDrawing => first | k_is | kit_is | kts_exm | kernel_rfl)
    (case xc_NoDrawing_cl => first | k_is | kit_is | kts_exm | kernel_rfl)
    (case xc_NoDrawing_ga => first | k_is | kit_is | kts_exm | kernel_rfl)
    (case xc_NoDrawing_gt => first | k_is | kit_is | kts_exm | kernel_rfl)
    (case xc_NoDrawing_ca => first | k_is | kit_is | kts_exm | kernel_rfl)
    (case xc_NoDrawing_gn => first | k_is | kit_is | kts_exm | kernel_rfl)
    (case xc_NoDrawing_tk => first | k_is | kit_is | kts_exm | kernel_rfl)
    (case xc_NoDrawing_ob => first | k_is | kit_is | kts_exm | kernel_rfl)
    (case xc_NoDrawing_be => first | k_is | kit_is | kts_exm | kernel_rfl)
    (case ce_NoBound_CurveError => first | k_is | kit_is | kts_exm | kernel_rfl)
    (case ce_NoDrawing_CurveError => first | k_is | kit_is | kts_exm | kernel_rfl)
    (case ck_NoBound_NoBound => first | k_is | kit_is | kts_exm | kernel_rfl)
    (case ck_NoBound_ValueError => first | k_is | kit_is | kts_exm | kernel_rfl)
    (case ck_NoDrawing_NoBound => first | k_is | kit_is | kts_exm | kernel_rfl)
    (case ck_NoDrawing_ValueError => first | k_is | kit_is | kts_exm | kernel_rfl)
    (case cs_NoBound_0 => first | k_is | kit_is | kts_exm | kernel_rfl)
    (case cs_NoDrawing_1 => first | k_is | kit_is | kts_exm | kernel_rfl)
#print axioms PySem.Challenge.cw_floorcurves_k34_beyond_the_wide_bounds_holds
