import PyProof.Rows.All
import Wide.All
import OpenK.AllK
import Wide.FinOn
import PySem.Challenge.RW_floorcurves_k62_words_of_templates
import Lean
import PyProof.EqAt
import PyProof.EqKinds
import PyProof.TupleCall
local macro_rules | `(tactic| omega) => `(tactic| lia)
set_option pp.maxSteps 400
set_option Elab.async false
set_option linter.all false
set_option maxRecDepth 100000
set_option maxHeartbeats 4000000
-- CHANGE: your row's module here, as the last of these rows
set_option Elab.async false
set_option linter.all false
set_option maxRecDepth 100000
/-! THE HAND LAYER, for ints, bools, texts, own classes, LISTS and tuples (index, slices, in, append, pop ..), calls, loops. Paste it whole ahead of your own text; what your proof does not reach may be deleted. -/
namespace L2
open PySem PySem.Spec PyProof.Rows

/-- a key: an int or a str -/
abbrev Key := Sum Int Str
def keyIs : Key → Value → Bool
  | .inl k, v => Value.isInt k v
  | .inr x, v => Value.isStrOf x v
def keyH (w : World) : Key → Int
  | .inl k => hashInt k
  | .inr x => hashStr w x
theorem keyIs_shape : ∀ {k : Key} {v : Value}, keyIs k v = true → (∃ i t, k = Sum.inl i ∧ v = Value.int i t) ∨ (∃ x t, k = Sum.inr x ∧ v = Value.str x t)
  | .inl i, v, h => by
    obtain ⟨t, e⟩ := Value.isInt_shape (k := i) (v := v) h
    exact .inl ⟨i, t, rfl, e⟩
  | .inr x, v, h => by
    obtain ⟨t, e⟩ := Value.isStrOf_shape (x := x) (v := v) h
    exact .inr ⟨x, t, rfl, e⟩
theorem keyIs_int (i : Int) (t : Tok) : keyIs (.inl i) (.int i t) = true := by simp [keyIs, Value.isInt]
theorem keyIs_str (x : Str) (t : Tok) : keyIs (.inr x) (.str x t) = true := by simp [keyIs, Value.isStrOf]
theorem key_ll (a b : Int) : decide ((Sum.inl a : Key) = Sum.inl b) = (a == b) := by
  by_cases e : a = b
  · subst e; simp
  · have h : ¬ (Sum.inl a : Key) = Sum.inl b := fun q => e (Sum.inl.inj q)
    rw [decide_eq_false h]
    exact (beq_eq_false_iff_ne.mpr e).symm
theorem key_rr (a b : Str) : decide ((Sum.inr a : Key) = Sum.inr b) = decide (a = b) := by
  by_cases e : a = b
  · subst e; simp
  · have h : ¬ (Sum.inr a : Key) = Sum.inr b := fun q => e (Sum.inr.inj q)
    rw [decide_eq_false h, decide_eq_false e]
theorem key_lr (a : Int) (b : Str) : decide ((Sum.inl a : Key) = Sum.inr b) = false := decide_eq_false (fun q => nomatch q)
theorem key_rl (a : Str) (b : Int) : decide ((Sum.inr a : Key) = Sum.inl b) = false := decide_eq_false (fun q => nomatch q)

def mixKind (prog : Program) (w : World) : PySem.KeyKind prog w Key where
  is := keyIs
  hash := keyH w
  inj := fun v a b ha hb => by
    rcases keyIs_shape ha with ⟨i, t, rfl, rfl⟩ | ⟨x, t, rfl, rfl⟩
    · rcases keyIs_shape hb with ⟨j, u, rfl, e⟩ | ⟨y, u, rfl, e⟩
      · injection e with e1 _; rw [e1]
      · exact nomatch e
    · rcases keyIs_shape hb with ⟨j, u, rfl, e⟩ | ⟨y, u, rfl, e⟩
      · exact nomatch e
      · injection e with e1 _; rw [e1]
  byValue := fun k v h => by
    rcases keyIs_shape h with ⟨i, t, rfl, rfl⟩ | ⟨x, t, rfl, rfl⟩ <;> rfl
  pyHash := fun hv h => by
    rcases keyIs_shape hv with ⟨i, t, rfl, rfl⟩ | ⟨x, t, rfl, rfl⟩
    · exact wpAny_pyHash_int h
    · exact wpAny_pyHash_str h
  eqBool := fun hu hv h => by
    rcases keyIs_shape hu with ⟨i, t, rfl, rfl⟩ | ⟨x, t, rfl, rfl⟩
    · rcases keyIs_shape hv with ⟨j, u, rfl, rfl⟩ | ⟨y, u, rfl, rfl⟩
      · rw [key_ll] at h; exact wpAny_eqBool_int h
      · rw [key_lr] at h; exact SeqAt.EqAt.int_str i t y u _ _ _ _ h
    · rcases keyIs_shape hv with ⟨j, u, rfl, rfl⟩ | ⟨y, u, rfl, rfl⟩
      · rw [key_rl] at h; exact SeqAt.EqAt.str_int x t j u _ _ _ _ h
      · rw [key_rr] at h; exact wpAny_eqBool_str h
  «strs» := fun k x t v h => by
    rcases keyIs_shape h with ⟨i, u, rfl, e⟩ | ⟨y, u, rfl, e⟩
    · exact nomatch e
    · injection e with e1 _
      subst e1
      cases v <;> rfl

theorem mixKind_int (prog : Program) (w : World) (i : Int) (t : Tok) : (mixKind prog w).is (.inl i) (.int i t) = true := keyIs_int i t
theorem mixKind_str (prog : Program) (w : World) (x : Str) (t : Tok) : (mixKind prog w).is (.inr x) (.str x t) = true := keyIs_str x t
end L2

namespace L2
open PySem PySem.Spec PyProof.Rows

/-- a value, without the heap -/
inductive V where
  | non | bl (b : Bool) | int (i : Int) | str (x : Str) | byt (b : Array UInt8) | flt (b : UInt64) | ref (a : Addr) | ty (n : String)
  deriving DecidableEq

def RelV : V → Value → Prop
  | .non, u => u = Value.none
  | .bl b, u => u = Value.bool b
  | .int i, u => ∃ t, u = Value.int i t
  | .str x, u => ∃ t, u = Value.str x t
  | .byt b, u => ∃ t, u = Value.bytes b t
  | .flt b, u => ∃ t, u = Value.float b t
  | .ref a, u => u = Value.ref a
  | .ty n, u => u = Value.type n

abbrev Vals : List V → List Value → Prop := Paired RelV
theorem Vals.length {xs : List V} {us : List Value} (r : Vals xs us) : xs.length = us.length := Paired.length r
theorem Vals.get : ∀ {xs : List V} {us : List Value} {i : Nat} {x : V}, Vals xs us → xs[i]? = some x → ∃ u, us[i]? = some u ∧ RelV x u
  | _, _, _, _, .nil, e => by simp at e
  | _, _, 0, _, .cons r _, e => by simp at e; subst e; exact ⟨_, rfl, r⟩
  | _, _, i + 1, x, .cons _ t, e => by
    obtain ⟨u, h1, h2⟩ := Vals.get (i := i) (x := x) t (by simpa using e)
    exact ⟨u, by simpa using h1, h2⟩
theorem Vals.set {x : V} {u : Value} (r : RelV x u) : ∀ {xs : List V} {us : List Value} (i : Nat), Vals xs us → Vals (xs.set i x) (us.set i u)
  | _, _, _, .nil => .nil
  | _, _, 0, .cons _ t => .cons r t
  | _, _, i + 1, .cons q t => .cons q (Vals.set r i t)
theorem Vals.append : ∀ {xs ys : List V} {us ws : List Value}, Vals xs us → Vals ys ws → Vals (xs ++ ys) (us ++ ws)
  | _, _, _, _, .nil, s => s
  | _, _, _, _, .cons r t, s => .cons r (Vals.append t s)
theorem Vals.take : ∀ {xs : List V} {us : List Value} (n : Nat), Vals xs us → Vals (xs.take n) (us.take n)
  | _, _, 0, _ => .nil
  | _, _, _ + 1, .nil => .nil
  | _, _, n + 1, .cons r t => .cons r (Vals.take n t)
theorem Vals.drop : ∀ {xs : List V} {us : List Value} (n : Nat), Vals xs us → Vals (xs.drop n) (us.drop n)
  | _, _, 0, r => r
  | _, _, _ + 1, .nil => .nil
  | _, _, n + 1, .cons _ t => Vals.drop n t
def RelO : Option V → Option Value → Prop
  | some v, some u => RelV v u
  | none, none => True
  | _, _ => False
def KV {κ : Type} : List (κ × V) → List (κ × Value) → Prop := Paired fun (p : κ × V) (q : κ × Value) => p.1 = q.1 ∧ RelV p.2 q.2

/-- a key of a dict (00_mix): an int or a text -/
def kV : Key → V
  | .inl i => .int i
  | .inr x => .str x

/-- what stands at a tracked address -/
inductive HO where
  /-- a list -/
  | lst (xs : List V)
  /-- a tuple (never changes) -/
  | tup (xs : List V)
  /-- a dict whose keys are ints and texts; one whose keys are tuples of ints and texts (the empty one is both) -/
  | dK (kvs : List (Key × V)) | dT (kvs : List (List Key × V))
  /-- a set of ints: its members, its size -/
  | set (S : Int → Bool) (n : Nat)
  /-- an instance of the class at C, its dict at dx, its attributes -/
  | ins (C dx : Addr) (fs : List (Str × V))
  /-- the dict of the instance at x -/
  | own (x : Addr)
  /-- the dict of an exception -/
  | xd (fs : List (Str × V))
  /-- a bound method, f of x -/
  | met (f x : Addr)
  /-- a range object lo, lo + 1, .. below hi -/
  | rng (lo hi : Int)
  /-- a thing that is known to the object (the script; a dict while a loop walks it): read, never written while it is so -/
  | frz (o : Obj) (u : HO)
  /-- a code object's table -/
  | tbl (ps : Array Value)
  /-- any other thing, by what is true of its one object (a def of one's own: SetO a S n := HO.ext fun h => ..) -/
  | ext (φ : Heap → Prop)

abbrev Hp := Addr → Option HO
def upd (H : Hp) (a : Addr) (o : HO) : Hp := fun b => if b = a then some o else H b
theorem upd_same {H : Hp} {a : Addr} {o : HO} : upd H a o a = some o := by unfold upd; rw [if_pos rfl]
theorem upd_ne {H : Hp} {a b : Addr} {o : HO} (h : b ≠ a) : upd H a o b = H b := by unfold upd; rw [if_neg h]
theorem upd_upd {H : Hp} {a : Addr} {o u : HO} : upd (upd H a o) a u = upd H a u := by
  funext b; unfold upd; split <;> rfl
/-- two objects of different content stand apart -/
theorem ne_of {H : Hp} {a b : Addr} {o u : HO} (h : H a = some o) (h' : H b = some u) (d : o ≠ u) : a ≠ b := by
  intro e; subst e; rw [h] at h'; exact d (Option.some.inj h')
theorem ne_of_none {H : Hp} {a b : Addr} {o : HO} (h : H a = some o) (h' : H b = none) : a ≠ b := by
  intro e; subst e; rw [h] at h'; cases h'

section
variable (P : Program) (w : World)
def ObjOk (H : Hp) (h : Heap) (a : Addr) : HO → Prop
  | .lst xs => xs.length ≤ sizeLine ∧ ∃ (its : List Value) (n : Nat), Vals xs its ∧ h.get? a = some { cls := .type "list", data := .seq its.toArray n }
  | .tup xs => xs.length ≤ sizeLine ∧ ∃ its : List Value, Vals xs its ∧ IsTup h a its.toArray
  | .dK kvs => kvs.length ≤ sizeLine ∧ (a == sysModules) = false ∧ ∃ vs, KV kvs vs ∧ h.DictOf (mixKind P w) a vs
  | .dT kvs => kvs.length ≤ sizeLine ∧ (a == sysModules) = false ∧ ∃ xs : List (List Key × Addr × Value),
      Paired (fun (p : List Key × V) (q : List Key × Addr × Value) => p.1 = q.1 ∧ H q.2.1 = some (.tup (p.1.map kV)) ∧ RelV p.2 q.2.2) kvs xs ∧
      ∃ o es ep, h.get? a = some o ∧ o.ExactDict ∧ o.data = .dict es ep ∧ es.toList = xs.map (entryOfKey (tupleKind (mixKind P w))) ∧ (xs.map (·.1)).Nodup
  | .set S n => h.SetOf (intKind P w) a S n
  | .ins C dx fs => H dx = some (.own a) ∧ fs.length ≤ 1000 ∧ dx ≠ a ∧ h.get? a = some (PySem.W.instObj C dx) ∧
      ∃ mA, h.Ns1 dx mA ∧ (∀ f, RelO (fs.lookup f) (mA f)) ∧ PySem.Within mA (fs.map (·.1))
  | .own _ => ∃ o, h.get? a = some o
  | .xd fs => ∃ mA, h.Ns1 a mA ∧ ∀ f, RelO (fs.lookup f) (mA f)
  | .rng lo hi => ∃ t u v, h.get? a = some { cls := .type "range", data := .fields #[.int lo t, .int hi u, .int 1 v] }
  | .frz o u => h.get? a = some o ∧ ObjOk H h a u
  | .tbl ps => h.get? a = some { cls := .none, data := .fields ps }
  | .met f x => h.get? a = some (PySem.W.methodObj (.ref f) (.ref x))
  | .ext φ => φ h ∧ (∃ o, h.get? a = some o) ∧ ∀ h1 h2 : Heap, φ h1 → (∀ o, h1.get? a = some o → h2.get? a = some o) → φ h2
/-- the abstract heap is held -/
def HOk (H : Hp) (h : Heap) : Prop := ∀ a o, H a = some o → ObjOk P w H h a o
end

section
variable {P : Program} {w : World} {H H' : Hp} {h h' : Heap} {a : Addr} {o : HO}
theorem ObjOk.lt (x : ObjOk P w H h a o) : a < h.objs.size := by
  cases o with
  | lst xs => obtain ⟨_, _, _, _, e⟩ := x; exact Heap.lt_size e
  | tup xs => obtain ⟨_, _, _, p⟩ := x; exact p.lt
  | dK kvs => obtain ⟨_, _, _, _, o, _, _, e, _⟩ := x; exact Heap.lt_size e
  | dT kvs => obtain ⟨_, _, _, _, o, _, _, e, _⟩ := x; exact Heap.lt_size e
  | set S n => obtain ⟨o, _, _, _, e, _⟩ := x; exact Heap.lt_size e
  | ins C dx fs => obtain ⟨_, _, _, e, _⟩ := x; exact Heap.lt_size e
  | own y => obtain ⟨_, e⟩ := x; exact Heap.lt_size e
  | xd fs => obtain ⟨_, ⟨_, _, _, e, _⟩, _⟩ := x; exact Heap.lt_size e
  | rng lo hi => obtain ⟨_, _, _, e⟩ := x; exact Heap.lt_size e
  | frz ob u => obtain ⟨e, _⟩ := x; exact Heap.lt_size e
  | tbl ps => exact Heap.lt_size (show h.get? a = some _ from x)
  | met f y => exact Heap.lt_size (show h.get? a = some _ from x)
  | ext φ => obtain ⟨_, ⟨_, e⟩, _⟩ := x; exact Heap.lt_size e
theorem Paired.mapP {α β : Type} {F G : α → β → Prop} : ∀ {l₁ : List α} {l₂ : List β}, Paired F l₁ l₂ → (∀ a b, F a b → G a b) → Paired G l₁ l₂
  | _, _, .nil, _ => .nil
  | _, _, .cons r t, f => .cons (f _ _ r) (Paired.mapP t f)
/-- what an object's description leans on: its own object, its own dict, the tuples -/
theorem ObjOk.stay (x : ObjOk P w H h a o) (k : ∀ b u, (b = a ∨ H b = some (.own a)) → h.get? b = some u → h'.get? b = some u)
    (ho : ∀ b, H b = some (.own a) → H' b = some (.own a)) (ht : ∀ b xs, H b = some (.tup xs) → H' b = some (.tup xs)) : ObjOk P w H' h' a o := by
  induction o with
  | lst xs => obtain ⟨z, its, n, r, e⟩ := x; exact ⟨z, its, n, r, k _ _ (.inl rfl) e⟩
  | tup xs => obtain ⟨z, its, r, ob, e, c⟩ := x; exact ⟨z, its, r, ob, k _ _ (.inl rfl) e, c⟩
  | dK kvs => obtain ⟨z, y, vs, r, ob, es, ep, e, c⟩ := x; exact ⟨z, y, vs, r, ob, es, ep, k _ _ (.inl rfl) e, c⟩
  | dT kvs =>
    obtain ⟨z, y, xs, r, ob, es, ep, e, c⟩ := x
    exact ⟨z, y, xs, Paired.mapP r fun p q z => ⟨z.1, ht _ _ z.2.1, z.2.2⟩, ob, es, ep, k _ _ (.inl rfl) e, c⟩
  | set S n => obtain ⟨ob, es, ep, t, e, c⟩ := x; exact ⟨ob, es, ep, t, k _ _ (.inl rfl) e, c⟩
  | ins C dx fs =>
    obtain ⟨d, z, ne, e, mA, ⟨od, es, ep, e2, c⟩, r⟩ := x
    exact ⟨ho _ d, z, ne, k _ _ (.inl rfl) e, mA, ⟨od, es, ep, k _ _ (.inr d) e2, c⟩, r⟩
  | own y => obtain ⟨ob, e⟩ := x; exact ⟨ob, k _ _ (.inl rfl) e⟩
  | xd fs => obtain ⟨mA, ⟨od, es, ep, e, c⟩, r⟩ := x; exact ⟨mA, ⟨od, es, ep, k _ _ (.inl rfl) e, c⟩, r⟩
  | rng lo hi => obtain ⟨t, u, v, e⟩ := x; exact ⟨t, u, v, k _ _ (.inl rfl) e⟩
  | frz ob u ih => obtain ⟨e, q⟩ := x; exact ⟨k _ _ (.inl rfl) e, ih q⟩
  | tbl ps =>
    have e : h.get? a = some { cls := .none, data := .fields ps } := x
    show h'.get? a = some { cls := .none, data := .fields ps }
    exact k a _ (.inl rfl) e
  | met f y =>
    have e : h.get? a = some (PySem.W.methodObj (.ref f) (.ref y)) := x
    show h'.get? a = some (PySem.W.methodObj (.ref f) (.ref y))
    exact k a _ (.inl rfl) e
  | ext φ => obtain ⟨p, ⟨o, e⟩, st⟩ := x; exact ⟨st _ _ p fun o q => k _ _ (.inl rfl) q, ⟨o, k _ _ (.inl rfl) e⟩, st⟩
theorem HOk.lt (x : HOk P w H h) (e : H a = some o) : a < h.objs.size := (x a o e).lt
theorem HOk.fresh (x : HOk P w H h) (e : h.objs.size ≤ a) : H a = none := by
  cases q : H a with
  | none => rfl
  | some u => exact absurd (Nat.lt_of_lt_of_le (x.lt q) e) (Nat.lt_irrefl _)
/-- every object of the heap is kept -/
theorem HOk.kept (x : HOk P w H h) (k : ∀ b u, h.get? b = some u → h'.get? b = some u) : HOk P w H h' := fun a o e =>
  (x a o e).stay (fun b u _ q => k b u q) (fun _ q => q) fun _ _ q => q
/-- a new object is laid and tracked -/
theorem HOk.laid (x : HOk P w H h) (k : ∀ b u, h.get? b = some u → h'.get? b = some u) (hp : h.objs.size ≤ a) (new : ObjOk P w (upd H a o) h' a o) : HOk P w (upd H a o) h' := fun b u e => by
  have hn := x.fresh hp
  by_cases hb : b = a
  · subst hb; rw [upd_same] at e; cases e; exact new
  · rw [upd_ne hb] at e
    exact (x b u e).stay (fun c v _ q => k c v q) (fun c q => by rw [upd_ne (ne_of_none q hn)]; exact q) fun c xs q => by rw [upd_ne (ne_of_none q hn)]; exact q
end

/-- what may be read as u: it is u, or a known u -/
def Rd (H : Hp) (a : Addr) (u : HO) : Prop := H a = some u ∨ ∃ o, H a = some (.frz o u)
theorem Rd.ok {P : Program} {w : World} {H : Hp} {h : Heap} {a : Addr} {u : HO} (r : Rd H a u) (x : HOk P w H h) : ObjOk P w H h a u := by
  rcases r with r | ⟨o, r⟩
  · exact x a u r
  · obtain ⟨_, q⟩ := x a _ r
    exact q
/-- what may be written -/
def Mut : Option HO → Prop
  | some (.lst _) => True
  | some (.dK _) => True
  | some (.dT _) => True
  | some (.set _ _) => True
  | some (.ins _ _ _) => True
  | some (.ext _) => True
  | _ => False
section
variable {P : Program} {w : World} {H : Hp} {h h' : Heap} {x e : Addr} {o' : HO}
/-- the object at e is changed: x itself, or the dict of the instance x -/
theorem HOk.write (ok : HOk P w H h) (mu : Mut (H x)) (he : e = x ∨ H e = some (.own x)) (k : ∀ b u, b ≠ e → h.get? b = some u → h'.get? b = some u) (heo : ∃ u, h'.get? e = some u)
    (new : ObjOk P w (upd H x o') h' x o') : HOk P w (upd H x o') h' := fun b u q => by
  have nown : ∀ c y, H c = some (.own y) → c ≠ x := fun c y r z => by subst z; rw [r] at mu; exact mu
  have ntup : ∀ c xs, H c = some (.tup xs) → c ≠ x := fun c xs r z => by subst z; rw [r] at mu; exact mu
  by_cases hb : b = x
  · subst hb; rw [upd_same] at q; cases q; exact new
  · rw [upd_ne hb] at q
    by_cases hbe : b = e
    · have q' : H b = some (.own x) := by
        rcases he with z | z
        · exact absurd (hbe.trans z) hb
        · rw [hbe]; exact z
      rw [q] at q'; cases q'
      obtain ⟨v, hv⟩ := heo
      exact ⟨v, by rw [hbe]; exact hv⟩
    · refine (ok b u q).stay (fun c v hc r => k c v ?_ r) (fun c r => by rw [upd_ne (nown c b r)]; exact r) fun c xs r => by rw [upd_ne (ntup c xs r)]; exact r
      rcases hc with rfl | hc
      · exact hbe
      · rintro rfl
        rcases he with z | z
        · exact nown c b hc z
        · rw [hc] at z; cases z; exact hb rfl
end

/-! ### kept unless tracked; of the frames at fs (the callers') the slots may change (an exception that passes writes there); of the records at ex (iterators) nothing is said -/
structure Un (fs ex : List Addr) (H H' : Hp) (h h' : Heap) : Prop where
  keep : ∀ b o, h.get? b = some o → H b = none → b ∉ fs → b ∉ ex → h'.get? b = some o
  slot : ∀ b o, h.get? b = some o → H b = none → b ∈ fs → b ∉ ex → ∃ sl, h'.get? b = some { o with slots := sl }
  free : ∀ b o, h.get? b = some o → H b = none → b ∉ ex → H' b = none
  there : ∀ b o, h.get? b = some o → b ∉ ex → ∃ o', h'.get? b = some o'
  tups : ∀ b xs, H b = some (.tup xs) → H' b = some (.tup xs)
  frzs : ∀ b o u, H b = some (.frz o u) → H' b = some (.frz o u)
  tbls : ∀ b ps, H b = some (.tbl ps) → ∃ more, H' b = some (.tbl (ps ++ more))
section
variable {fs fs' ex ex' : List Addr} {H H1 H2 : Hp} {h h1 h2 h' : Heap} {a x e : Addr} {o : HO}
theorem Un.any (u : Un fs ex H H1 h h1) {b : Addr} {ob : Obj} (q : h.get? b = some ob) (n : H b = none) (hx : b ∉ ex) : ∃ sl, h1.get? b = some { ob with slots := sl } := by
  by_cases hb : b ∈ fs
  · exact u.slot b ob q n hb hx
  · exact ⟨ob.slots, u.keep b ob q n hb hx⟩
theorem Un.kept (k : ∀ b u, h.get? b = some u → h'.get? b = some u) : Un fs ex H H h h' :=
  ⟨fun b ob q _ _ _ => k b ob q, fun b ob q _ _ _ => ⟨ob.slots, k b ob q⟩, fun _ _ _ n _ => n, fun b ob q _ => ⟨ob, k b ob q⟩, fun _ _ q => q, fun _ _ _ q => q, fun _ ps q => ⟨#[], by rw [q]; simp⟩⟩
theorem Un.refl : Un fs ex H H h h := Un.kept fun _ _ q => q
theorem Un.laid (k : ∀ b u, h.get? b = some u → h'.get? b = some u) (hp : h.objs.size ≤ a) (hn : H a = none) : Un fs ex H (upd H a o) h h' where
  keep := fun b u q _ _ _ => k b u q
  slot := fun b u q _ _ _ => ⟨u.slots, k b u q⟩
  free := fun b u q n _ => by rw [upd_ne (Nat.ne_of_lt (Nat.lt_of_lt_of_le (Heap.lt_size q) hp))]; exact n
  there := fun b u q _ => ⟨u, k b u q⟩
  tups := fun b xs q => by rw [upd_ne (ne_of_none q hn)]; exact q
  frzs := fun b u xs q => by rw [upd_ne (ne_of_none q hn)]; exact q
  tbls := fun b ps q => ⟨#[], by rw [upd_ne (ne_of_none q hn), q]; simp⟩
theorem Un.write (mu : Mut (H x)) (he : e = x ∨ H e = some (.own x)) (k : ∀ b u, b ≠ e → h.get? b = some u → h'.get? b = some u) (heo : ∃ u, h'.get? e = some u) : Un fs ex H (upd H x o) h h' := by
  have hx : ∀ b, H b = none → b ≠ x := fun b n z => by subst z; rw [n] at mu; exact mu
  have hb : ∀ b, H b = none → b ≠ e := fun b n z => by
    subst z
    rcases he with r | r
    · exact hx b n r
    · rw [n] at r; cases r
  have hm : ∀ b u, H b = some u → ¬ Mut (some u) → b ≠ x := fun b u q nm z => by subst z; rw [q] at mu; exact nm mu
  refine ⟨fun b u q n _ _ => k b u (hb b n) q, fun b u q n _ _ => ⟨u.slots, k b u (hb b n) q⟩, fun b u q n _ => by rw [upd_ne (hx b n)]; exact n, fun b u q _ => ?_,
    fun b xs q => by rw [upd_ne (hm b _ q fun z => z)]; exact q, fun b u xs q => by rw [upd_ne (hm b _ q fun z => z)]; exact q, fun b ps q => ⟨#[], by rw [upd_ne (hm b _ q fun z => z), q]; simp⟩⟩
  by_cases hbe : b = e
  · subst hbe; exact heo
  · exact ⟨u, k b u hbe q⟩
end

/-! ### the heap without what is tracked -/
def trk (h : Heap) (H : Hp) : List Addr := (List.range h.objs.size).filter fun a => (H a).isSome
def hidT (h : Heap) (H : Hp) : Heap := PySem.W.hideAll h (trk h H)
theorem hidT_size (h : Heap) (H : Hp) : (hidT h H).objs.size = h.objs.size := PySem.W.hideAll_size _ _
theorem hidT_get {h : Heap} {H : Hp} {b : Addr} {o : Obj} (e : h.get? b = some o) (n : H b = none) : (hidT h H).get? b = some o :=
  PySem.W.hideAll_get _ e fun hm => by
    have q : (H b).isSome = true := (List.mem_filter.mp hm).2
    rw [n] at q; simp at q
theorem of_hidT {h : Heap} {H : Hp} {b : Addr} {o : Obj} (e : (hidT h H).get? b = some o) : h.get? b = some o ∧ H b = none := by
  have e' : h.get? b = some o := PySem.W.of_hideAll (trk h H) e
  refine ⟨e', ?_⟩
  cases q : H b with
  | none => rfl
  | some x =>
    have hm : b ∈ trk h H := List.mem_filter.mpr ⟨List.mem_range.mpr (Heap.lt_size e'), by simp [q]⟩
    have z : (hidT h H).get? b = none := PySem.W.hideAll_none (trk h H) hm
    rw [z] at e; cases e

/-! ### OpenK's ledger, filled with every new object but one -/
def allNews (g h : Heap) (L : Addr) : List (Addr × Obj) := (List.range h.objs.size).filterMap fun a => if a = L ∨ (g.get? a).isSome = true then none else (h.get? a).map fun o => (a, o)
def rest (g h : Heap) (L d : Addr) : List (Addr × Obj) := (allNews g h L).filter fun p => decide (p.1 ≠ d)
end L2

namespace L2
open PySem PySem.Spec PyProof.Rows

/-- the module's facts, over the base: the heap at the law's entry without what is tracked there -/
structure Mod (K : PySem.W.Frag) (mg : Str → Option Value) (base : Heap) : Prop where
  kin : K.In base
  glob : base.Ns mainGlobals mg
  blt : ∃ mb, base.Ns builtinsNs mb ∧ ∀ x : Str, x ≠ "__name__" → mb x = bootBuiltins x
  nolimit : base.NoLimit

/-- the context: a def's body (or a comprehension's block) running. base: fixed through the whole law; s₀, H₀: the entry; outer: the frames whose slots others may change (a def's callers); stack: all frames that run;
   ex: iterators that were made ahead of the entry and are walked here (a comprehension's); fn: the names whose cells were made at the entry (a def: all; a comprehension's block: its own); calm: not within an except suite; pn: pins that every state bears; xe: what is wanted of an exception that leaves the code -/
structure Cx where
  prog : Program
  w : World
  K : PySem.W.Frag
  mg : Str → Option Value
  base : Heap
  A : Around
  N : List Str
  s₀ : Shared
  H₀ : Hp
  env : Env
  outer : List Env
  stack : List Env
  ex : List Addr
  fn : Str → Bool
  calm : Bool
  pn : List (Addr × Obj)
  xe : Value → Shared → Prop
/-- the callers' frames -/
def frs (l : List Env) : List Addr := l.filterMap (·.frame)
abbrev Cx.fs (X : Cx) : List Addr := frs X.outer

def Vis (sc : Scope) (x : Str) : Prop := sc.names.lookup x = some .local ∨ sc.names.lookup x = some .cell ∨ sc.names.lookup x = some .free
def Loc (sc : Scope) (x : Str) : Prop := sc.names.lookup x = some .local ∨ sc.names.lookup x = some .cell
def Look (env : Env) (h : Heap) (m : Str → Option Value) (x : Str) (u : Value) : Prop :=
  (env.kindOf x = some .local ∧ m x = some u) ∨ ((env.kindOf x = some .cell ∨ env.kindOf x = some .free) ∧ ∃ c, env.cells.lookup x = some c ∧ h.IsCell c (some u))

structure Cx.Ok (X : Cx) : Prop where
  mod : Mod X.K X.mg X.base
  kind : X.env.scope.kind = .function
  glob : X.env.globals = mainGlobals
  blt : X.env.builtins = builtinsNs
  above : X.s₀.heap.objs.size ≤ X.env.locals
  inj : ∀ x y c, X.env.cells.lookup x = some c → X.env.cells.lookup y = some c → x = y
  has : ∀ x, (X.env.kindOf x = some .cell ∨ X.env.kindOf x = some .free) → ∃ c, X.env.cells.lookup x = some c
  cab : ∀ x c, X.fn x = true → X.env.cells.lookup x = some c → X.s₀.heap.objs.size ≤ c
  hd : X.calm = true → X.A.handled = none
  frames : X.A.frames = some X.stack
  stk : X.stack = X.outer ∨ (X.stack = X.env :: X.outer ∧ X.env.frame = some X.env.locals)
  exf : ∀ b ∈ X.ex, b ≠ X.env.locals ∧ ∀ x c, X.env.cells.lookup x = some c → c ≠ b
  bs : ∀ b o, X.base.get? b = some o → X.s₀.heap.get? b = some o ∧ X.H₀ b = none
  bsz : X.base.objs.size ≤ X.s₀.heap.objs.size
  noex : ∀ b o, X.base.get? b = some o → b ∉ X.ex
  exfs : ∀ b ∈ X.ex, b ∉ X.fs
  funs : X.s₀.heap.FunFrames X.base X.outer
  frf : ∀ b ∈ X.fs, X.H₀ b = none

structure Inv (X : Cx) (pins : List (Addr × Obj)) (σ : List (Option V)) (H : Hp) (s : Shared) : Prop where
  ok : X.Ok
  os : s.os = X.s₀.os
  bare : AllBare s.gens
  base : Un X.fs X.ex X.H₀ H X.s₀.heap s.heap
  loc : ∃ m, s.heap.Ns X.env.locals m ∧ ∀ (i : Nat) (x : Str) (v : V), X.N[i]? = some x → σ[i]? = some (some v) → Vis X.env.scope x → ∃ u, RelV v u ∧ Look X.env s.heap m x u
  cell : ∀ x c, X.env.cells.lookup x = some c → ∃ v, s.heap.IsCell c v
  free : H X.env.locals = none
  freeC : ∀ x c, X.env.cells.lookup x = some c → H c = none
  pin : ∀ p ∈ X.pn ++ pins, s.heap.get? p.1 = some p.2 ∧ H p.1 = none ∧ p.1 ≠ X.env.locals ∧ p.1 ∉ X.fs ∧ ∀ v, p.2.data ≠ .cell v
  hok : HOk X.prog X.w H s.heap
  len : σ.length = X.N.length

section
variable {X : Cx} {pins : List (Addr × Obj)} {σ : List (Option V)} {H H' : Hp} {s : Shared} {h' : Heap}

theorem Cx.Ok.nofr (ok : X.Ok) {b : Addr} {o : Obj} (e : X.base.get? b = some o) : b ∉ X.fs := fun hb => by
  have := (ok.funs.mem hb).1
  rw [e] at this; cases this
theorem Inv.bs (I : Inv X pins σ H s) : ∀ b o, X.base.get? b = some o → s.heap.get? b = some o ∧ H b = none := fun b o e =>
  ⟨I.base.keep b o (I.ok.bs b o e).1 (I.ok.bs b o e).2 (I.ok.nofr e) (I.ok.noex b o e), I.base.free b o (I.ok.bs b o e).1 (I.ok.bs b o e).2 (I.ok.noex b o e)⟩
theorem Inv.bk (I : Inv X pins σ H s) : ∀ b o, X.base.get? b = some o → s.heap.get? b = some o := fun b o e => (I.bs b o e).1
theorem Inv.mod (I : Inv X pins σ H s) : Mod X.K X.mg X.base := I.ok.mod
theorem Inv.kIn (I : Inv X pins σ H s) : X.K.In s.heap := I.ok.mod.kin.keeps I.bk
theorem Inv.lt (I : Inv X pins σ H s) : X.env.locals < s.heap.objs.size := let ⟨_, hn, _⟩ := I.loc; hn.lt
theorem Inv.sz (I : Inv X pins σ H s) : X.s₀.heap.objs.size ≤ s.heap.objs.size := Nat.le_trans I.ok.above (Nat.le_of_lt I.lt)
theorem Inv.nofs (I : Inv X pins σ H s) {a : Addr} (h : s.heap.objs.size ≤ a) : a ∉ X.fs := fun hb => by
  obtain ⟨_, o, ho, _⟩ := I.ok.funs.mem hb
  exact absurd (Nat.lt_of_lt_of_le (Heap.lt_size ho) (Nat.le_trans I.sz h)) (Nat.lt_irrefl _)
theorem Inv.cne (I : Inv X pins σ H s) : ∀ x c, X.env.cells.lookup x = some c → c ≠ X.env.locals := fun x c e z => by
  obtain ⟨v, o, ho, hd⟩ := I.cell x c e
  obtain ⟨m, ⟨o', es, ep, ho', hd', _⟩, _⟩ := I.loc
  rw [z, ho'] at ho; cases ho; rw [hd'] at hd; cases hd
theorem Inv.funs (I : Inv X pins σ H s) : s.heap.FunFrames X.base X.outer := by
  have all : ∀ (l : List Env), (∀ b ∈ frs l, b ∈ X.fs) → X.s₀.heap.FunFrames X.base l → s.heap.FunFrames X.base l := by
    intro l
    induction l with
    | nil => intro _ _; trivial
    | cons env r ih =>
      intro hs hl
      obtain ⟨hk, ⟨L, o, hf, hn, ho, hd⟩, hr⟩ := hl
      have hL : L ∈ X.fs := hs L (by unfold frs; rw [List.filterMap_cons, hf]; exact List.mem_cons_self)
      obtain ⟨sl, e⟩ := I.base.slot L o ho (I.ok.frf L hL) hL fun z => I.ok.exfs L z hL
      exact ⟨hk, ⟨L, _, hf, hn, e, hd⟩, ih (fun b hb => hs b (by unfold frs; rw [List.filterMap_cons, hf]; exact List.mem_cons_of_mem _ hb)) hr⟩
  exact all X.outer (fun _ hb => hb) I.ok.funs

/-- the frames that run, for a call -/
theorem Inv.stack (I : Inv X pins σ H s) : s.heap.FunFrames X.base X.stack := by
  rcases I.ok.stk with e | ⟨e, hf⟩
  · rw [e]; exact I.funs
  · rw [e]
    obtain ⟨m, hn, _⟩ := I.loc
    refine .cons (by rw [I.ok.kind]; decide) hf hn ?_ I.funs
    exact Heap.get?_none_of_le (Nat.le_trans I.ok.bsz I.ok.above)
theorem Inv.stkSub (I : Inv X pins σ H s) : ∀ b ∈ frs X.stack, b ∈ X.env.locals :: X.fs := fun b hb => by
  rcases I.ok.stk with e | ⟨e, hf⟩
  · rw [e] at hb; exact List.mem_cons_of_mem _ hb
  · rw [e] at hb
    unfold frs at hb
    rw [List.filterMap_cons, hf] at hb
    exact hb
theorem Inv.stkFree (I : Inv X pins σ H s) : ∀ b ∈ frs X.stack, H b = none := fun b hb => by
  rcases List.mem_cons.mp (I.stkSub b hb) with e | hb
  · rw [e]; exact I.free
  · obtain ⟨_, o, ho, _⟩ := I.ok.funs.mem hb
    exact I.base.free b o ho (I.ok.frf b hb) fun z => I.ok.exfs b z hb

/-- THE STEP: the untracked objects but the frame and the records at ch are kept (the callers' frames up to slots), the frame's map is kept, the new abstract heap is held -/
theorem Inv.step {g' : Array GenState} {t' : Nat} {d' : Drawn} {ch : List Addr} (I : Inv X pins σ H s)
    (hch : ∀ b ∈ ch, (b ∈ X.ex ∨ X.s₀.heap.objs.size ≤ b) ∧ b ≠ X.env.locals ∧ (∀ x c, X.env.cells.lookup x = some c → c ≠ b) ∧ ∀ p ∈ X.pn ++ pins, p.1 ≠ b)
    (keep : ∀ b o, b ≠ X.env.locals → b ∉ X.fs → b ∉ ch → s.heap.get? b = some o → H b = none → h'.get? b = some o)
    (slot : ∀ b o, b ≠ X.env.locals → b ∈ X.fs → b ∉ ch → s.heap.get? b = some o → H b = none → ∃ sl, h'.get? b = some { o with slots := sl }) (free : ∀ b o, b ∉ ch → s.heap.get? b = some o → H b = none → H' b = none)
    (there : ∀ b o, b ∉ ch → s.heap.get? b = some o → ∃ o', h'.get? b = some o')
    (tups : ∀ b xs, H b = some (.tup xs) → H' b = some (.tup xs)) (frzs : ∀ b o u, H b = some (.frz o u) → H' b = some (.frz o u)) (tbls : ∀ b ps, H b = some (.tbl ps) → ∃ more, H' b = some (.tbl (ps ++ more)))
    (ns : ∀ m, s.heap.Ns X.env.locals m → h'.Ns X.env.locals m) (hok : HOk X.prog X.w H' h') (hg : AllBare g') :
    Inv X pins σ H' { s with heap := h', gens := g', drawn := d', toks := t' } := by
  have neL : ∀ b o, X.s₀.heap.get? b = some o → b ≠ X.env.locals := fun b o e => Nat.ne_of_lt (Nat.lt_of_lt_of_le (Heap.lt_size e) I.ok.above)
  have neC : ∀ b o, X.s₀.heap.get? b = some o → b ∉ X.ex → b ∉ ch := fun b o e hx hb => by
    rcases (hch b hb).1 with z | z
    · exact hx z
    · exact absurd (Nat.lt_of_lt_of_le (Heap.lt_size e) z) (Nat.lt_irrefl _)
  have cellK : ∀ x c, X.env.cells.lookup x = some c → ∀ v, s.heap.IsCell c v → h'.IsCell c v := fun x c e v ⟨o, ho, hd⟩ => by
    have nch : c ∉ ch := fun z => (hch c z).2.2.1 x c e rfl
    by_cases hc : c ∈ X.fs
    · obtain ⟨sl, q⟩ := slot c o (I.cne x c e) hc nch ho (I.freeC x c e)
      exact ⟨_, q, hd⟩
    · exact ⟨o, keep c o (I.cne x c e) hc nch ho (I.freeC x c e), hd⟩
  refine ⟨I.ok, I.os, hg, ⟨fun b o e n hb hx => ?_, fun b o e n hb hx => ?_, fun b o e n hx => ?_, fun b o e hx => ?_, fun b xs e => tups b xs (I.base.tups b xs e), fun b o xs e => frzs b o xs (I.base.frzs b o xs e), fun b ps e => ?_⟩, ?_, fun x c e => ?_, ?_, fun x c e => ?_, fun p hp => ?_, hok, I.len⟩
  · exact keep b o (neL b o e) hb (neC b o e hx) (I.base.keep b o e n hb hx) (I.base.free b o e n hx)
  · obtain ⟨sl, e1⟩ := I.base.slot b o e n hb hx
    obtain ⟨sl', e2⟩ := slot b _ (neL b o e) hb (neC b o e hx) e1 (I.base.free b o e n hx)
    exact ⟨sl', e2⟩
  · obtain ⟨o', e1⟩ := I.base.there b o e hx
    exact free b o' (neC b o e hx) e1 (I.base.free b o e n hx)
  · obtain ⟨o', e1⟩ := I.base.there b o e hx
    exact there b o' (neC b o e hx) e1
  · obtain ⟨m1, e1⟩ := I.base.tbls b ps e
    obtain ⟨m2, e2⟩ := tbls b _ e1
    exact ⟨m1 ++ m2, by rw [e2, Array.append_assoc]⟩
  · obtain ⟨m, hn, hl⟩ := I.loc
    refine ⟨m, ns m hn, fun i x v e1 e2 e3 => ?_⟩
    obtain ⟨u, r, l⟩ := hl i x v e1 e2 e3
    refine ⟨u, r, ?_⟩
    rcases l with l | ⟨k, c, e, z⟩
    · exact .inl l
    · exact .inr ⟨k, c, e, cellK x c e _ z⟩
  · obtain ⟨v, z⟩ := I.cell x c e
    exact ⟨v, cellK x c e v z⟩
  · obtain ⟨m, ⟨o, _, _, ho, _⟩, _⟩ := I.loc
    exact free _ o (fun z => (hch _ z).2.1 rfl) ho I.free
  · obtain ⟨v, o, ho, hd⟩ := I.cell x c e
    exact free c o (fun z => (hch c z).2.2.1 x c e rfl) ho (I.freeC x c e)
  · obtain ⟨e, n, ne, nf, d⟩ := I.pin p hp
    have nch : p.1 ∉ ch := fun z => (hch p.1 z).2.2.2 p hp rfl
    exact ⟨keep p.1 p.2 ne nf nch e n, free p.1 p.2 nch e n, ne, nf, d⟩
/-- .. where the frame's own object is kept too -/
theorem Inv.un {t' : Nat} (I : Inv X pins σ H s) (u : Un X.fs [] H H' s.heap h') (hok : HOk X.prog X.w H' h') : Inv X pins σ H' { s with heap := h', toks := t' } := by
  obtain ⟨m, ⟨o, es, ep, ho, r⟩, _⟩ := id I.loc
  obtain ⟨sl, hL⟩ := u.any ho I.free (by simp)
  exact I.step (g' := s.gens) (d' := s.drawn) (ch := []) (fun _ z => nomatch z) (fun b o _ hb _ e n => u.keep b o e n hb (by simp)) (fun b o _ hb _ e n => u.slot b o e n hb (by simp)) (fun b o _ e n => u.free b o e n (by simp)) (fun b o _ e => u.there b o e (by simp)) u.tups u.frzs u.tbls (fun m' hm => by
    obtain ⟨o', es', ep', ho', r'⟩ := hm
    rw [ho] at ho'; cases ho'
    exact ⟨_, es', ep', hL, r'⟩) hok I.bare
/-- behind a call (or a comprehension's block): the slots of this frame may have changed too, the records at ch may have turned -/
theorem Inv.call {g' : Array GenState} {t' : Nat} {d' : Drawn} {ch : List Addr} (I : Inv X pins σ H s) (u : Un (frs X.stack) ch H H' s.heap h') (hok : HOk X.prog X.w H' h') (hg : AllBare g')
    (hch : ∀ b ∈ ch, (b ∈ X.ex ∨ X.s₀.heap.objs.size ≤ b) ∧ b ≠ X.env.locals ∧ (∀ x c, X.env.cells.lookup x = some c → c ≠ b) ∧ ∀ p ∈ X.pn ++ pins, p.1 ≠ b) :
    Inv X pins σ H' { s with heap := h', gens := g', drawn := d', toks := t' } := by
  obtain ⟨m, ⟨o, es, ep, ho, r⟩, _⟩ := id I.loc
  obtain ⟨sl, hL⟩ := u.any ho I.free fun z => (hch _ z).2.1 rfl
  exact I.step (ch := ch) hch (fun b o hL hb hc e n => u.keep b o e n (fun z => (List.mem_cons.mp (I.stkSub b z)).elim hL hb) hc) (fun b o _ _ hc e n => u.any e n hc) (fun b o hc e n => u.free b o e n hc) (fun b o hc e => u.there b o e hc) u.tups u.frzs u.tbls (fun m' hm => by
    obtain ⟨o', es', ep', ho', r'⟩ := hm
    rw [ho] at ho'; cases ho'
    exact ⟨_, es', ep', hL, r'⟩) hok hg
/-- an untracked record of ours (an iterator) has turned -/
theorem Inv.turned {t' : Nat} {it : Addr} (I : Inv X pins σ H s) (k : ∀ b o, b ≠ it → s.heap.get? b = some o → h'.get? b = some o) (hn : H it = none) (hL : it ≠ X.env.locals)
    (h1 : it ∈ X.ex ∨ X.s₀.heap.objs.size ≤ it) (h2 : ∀ x c, X.env.cells.lookup x = some c → c ≠ it) (h3 : ∀ p ∈ X.pn ++ pins, p.1 ≠ it) : Inv X pins σ H { s with heap := h', toks := t' } := by
  have nit : ∀ b u, H b = some u → b ≠ it := fun b u e z => by rw [z, hn] at e; cases e
  refine I.step (g' := s.gens) (d' := s.drawn) (ch := [it]) (fun b hb => ?_) (fun b o _ _ hc e _ => k b o (fun z => hc (by simp [z])) e) (fun b o _ _ hc e _ => ⟨o.slots, k b o (fun z => hc (by simp [z])) e⟩) (fun _ _ _ _ n => n)
    (fun b o hc e => ⟨o, k b o (fun z => hc (by simp [z])) e⟩) (fun _ _ e => e) (fun _ _ _ e => e) (fun b ps e => ⟨#[], by rw [e]; simp⟩) (fun m hm => ?_) (fun b u e => ?_) I.bare
  · have e : b = it := by simpa using hb
    subst e
    exact ⟨h1, hL, h2, h3⟩
  · obtain ⟨o, es, ep, ho, r⟩ := hm
    exact ⟨o, es, ep, k _ o (Ne.symm hL) ho, r⟩
  · refine (I.hok b u e).stay (fun c v hc q => k c v ?_ q) (fun _ q => q) fun _ _ q => q
    rcases hc with z | z
    · rw [z]; exact nit b u e
    · exact nit c _ z
theorem Inv.tok (I : Inv X pins σ H s) (t : Nat) : Inv X pins σ H { s with toks := t } := I.un (h' := s.heap) (t' := t) Un.refl I.hok
/-- all objects kept -/
theorem Inv.kept {t' : Nat} (I : Inv X pins σ H s) (k : ∀ b u, s.heap.get? b = some u → h'.get? b = some u) : Inv X pins σ H { s with heap := h', toks := t' } := I.un (Un.kept k) (I.hok.kept k)
/-- a new object laid and tracked -/
theorem Inv.laid {a : Addr} {o : HO} {t' : Nat} (I : Inv X pins σ H s) (k : ∀ b u, s.heap.get? b = some u → h'.get? b = some u) (hp : s.heap.objs.size ≤ a) (new : ObjOk X.prog X.w (upd H a o) h' a o) :
    Inv X pins σ (upd H a o) { s with heap := h', toks := t' } := I.un (Un.laid k hp (I.hok.fresh hp)) (I.hok.laid k hp new)
/-- an object written -/
theorem Inv.write {x e : Addr} {o : HO} {t' : Nat} (I : Inv X pins σ H s) (mu : Mut (H x)) (he : e = x ∨ H e = some (.own x)) (k : ∀ b u, b ≠ e → s.heap.get? b = some u → h'.get? b = some u) (heo : ∃ u, h'.get? e = some u)
    (new : ObjOk X.prog X.w (upd H x o) h' x o) : Inv X pins σ (upd H x o) { s with heap := h', toks := t' } := I.un (Un.write mu he k heo) (I.hok.write mu he k heo new)
/-- forgetting slots, pins -/
theorem Inv.weak {σ' : List (Option V)} (I : Inv X pins σ H s) (hl : σ'.length = σ.length) (w : ∀ (i : Nat) v, σ'[i]? = some (some v) → σ[i]? = some (some v)) : Inv X pins σ' H s :=
  ⟨I.ok, I.os, I.bare, I.base, let ⟨m, hn, hl'⟩ := I.loc; ⟨m, hn, fun i x v e1 e2 e3 => hl' i x v e1 (w i v e2) e3⟩, I.cell, I.free, I.freeC, I.pin, I.hok, hl.trans I.len⟩
theorem Inv.pins_of {pins' : List (Addr × Obj)} (I : Inv X pins σ H s) (h : ∀ p ∈ pins', s.heap.get? p.1 = some p.2 ∧ H p.1 = none ∧ p.1 ≠ X.env.locals ∧ p.1 ∉ X.fs ∧ ∀ v, p.2.data ≠ .cell v) : Inv X pins' σ H s :=
  ⟨I.ok, I.os, I.bare, I.base, I.loc, I.cell, I.free, I.freeC, fun p hp => (List.mem_append.mp hp).elim (fun z => I.pin p (List.mem_append_left _ z)) (h p), I.hok, I.len⟩

theorem nodup_ix {N : List Str} (hN : N.Nodup) {i j : Nat} {x : Str} (a : N[i]? = some x) (b : N[j]? = some x) : i = j := by
  obtain ⟨h1, e1⟩ := List.getElem?_eq_some_iff.mp a
  obtain ⟨h2, e2⟩ := List.getElem?_eq_some_iff.mp b
  exact (List.getElem_inj hN).mp (e1.trans e2.symm)

/-- a name is stored; what changed -/
theorem store_ok2 {M : Model} {A : Around} {E : Value → Shared → Prop} {i : Nat} {x : Str} {v : V} {u : Value} {Q : Unit → Shared → Prop} (I : Inv X pins σ H s) (hN : X.N.Nodup) (hi : X.N[i]? = some x) (hx : Loc X.env.scope x) (r : RelV v u)
    (h : ∀ s', Inv X pins (σ.set i (some v)) H s' → (∃ a, Heap.SameBut a s.heap s'.heap ∧ (a = X.env.locals ∨ X.env.cells.lookup x = some a)) → Q () s') (hf : X.fn x = true ∨ X.env.scope.names.lookup x = some .local := by first | exact .inl rfl | exact .inr rfl | assumption) : wpAny M A (storeName X.env x u) Q E s := by
  obtain ⟨m, hn, hl⟩ := id I.loc
  have hcls : (X.env.scope.kind == .class || (X.env.scope.kind == .module && X.env.locals != X.env.globals)) = false := by rw [I.ok.kind]; rfl
  have hiσ : i < σ.length := by rw [I.len]; exact (List.getElem?_eq_some_iff.mp hi).1
  have cne := I.cne
  have tracked : ∀ {a : Addr} {h' : Heap}, (∃ o, s.heap.get? a = some o ∧ H a = none) → Heap.SameBut a s.heap h' → HOk X.prog X.w H h' := fun {a h'} ha hs b ob e => by
    obtain ⟨_, _, hfree⟩ := ha
    refine (I.hok b ob e).stay (fun c w' hc q => (hs.2 c ?_).trans q) (fun _ q => q) fun _ _ q => q
    rintro rfl
    rcases hc with rfl | hc
    · rw [hfree] at e; cases e
    · rw [hfree] at hc; cases hc
  rcases hx with hk | hk
  · refine wpAny_storeName_local hk hn (fun h' hn' hs => ?_) hcls
    obtain ⟨oL, _, _, hoL, _⟩ := id hn
    refine h _ ⟨I.ok, I.os, I.bare, ⟨fun b o e n hb hx => ?_, fun b o e n hb hx => ?_, I.base.free, fun b o e hx => ?_, I.base.tups, I.base.frzs, I.base.tbls⟩, ⟨_, hn', fun j y v' e1 e2 e3 => ?_⟩, fun y c e => ?_, I.free, I.freeC, fun p hp => ?_, tracked ⟨oL, hoL, I.free⟩ hs, by simpa using I.len⟩ ⟨_, hs, .inl rfl⟩
    · exact (hs.2 b (Nat.ne_of_lt (Nat.lt_of_lt_of_le (Heap.lt_size e) I.ok.above))).trans (I.base.keep b o e n hb hx)
    · obtain ⟨sl, e1⟩ := I.base.slot b o e n hb hx
      exact ⟨sl, (hs.2 b (Nat.ne_of_lt (Nat.lt_of_lt_of_le (Heap.lt_size e) I.ok.above))).trans e1⟩
    · obtain ⟨o', e1⟩ := I.base.there b o e hx
      exact ⟨o', (hs.2 b (Nat.ne_of_lt (Nat.lt_of_lt_of_le (Heap.lt_size e) I.ok.above))).trans e1⟩
    · by_cases hj : j = i
      · subst hj
        rw [hi] at e1; cases e1
        rw [List.getElem?_set_self hiσ] at e2
        cases e2
        exact ⟨u, r, .inl ⟨hk, by simp⟩⟩
      · rw [List.getElem?_set_ne (Ne.symm hj)] at e2
        obtain ⟨u', r', q⟩ := hl j y v' e1 e2 e3
        refine ⟨u', r', ?_⟩
        rcases q with ⟨k, e⟩ | ⟨k, c, e, z⟩
        · refine .inl ⟨k, ?_⟩
          have : y ≠ x := fun e => hj (nodup_ix hN e1 (e ▸ hi))
          simp [this, e]
        · exact .inr ⟨k, c, e, z.sameBut hs (cne y c e)⟩
    · obtain ⟨w', z⟩ := I.cell y c e
      exact ⟨w', z.sameBut hs (cne y c e)⟩
    · obtain ⟨e, n, ne, nf, d⟩ := I.pin p hp
      exact ⟨(hs.2 p.1 ne).trans e, n, ne, nf, d⟩
  · have hfn : X.fn x = true := by
      rcases hf with z | z
      · exact z
      · rw [z] at hk; cases hk
    obtain ⟨c, hc⟩ := I.ok.has x (.inl hk)
    obtain ⟨w', z⟩ := I.cell x c hc
    refine wpAny_storeName_cell I.ok.kind hk hc z (fun h' hc' hs => ?_)
    obtain ⟨oc, hoc, hocd⟩ := id z
    refine h { s with heap := h' } ⟨I.ok, I.os, I.bare, ⟨fun b o e n hb hx => ?_, fun b o e n hb hx => ?_, I.base.free, fun b o e hx => ?_, I.base.tups, I.base.frzs, I.base.tbls⟩, ⟨m, hn.sameBut hs (Ne.symm (cne x c hc)), fun j y v' e1 e2 e3 => ?_⟩, fun y c' e => ?_, I.free, I.freeC, fun p hp => ?_, tracked ⟨oc, hoc, I.freeC x c hc⟩ hs, by simpa using I.len⟩ ⟨c, hs, .inr hc⟩
    · exact (hs.2 b (Nat.ne_of_lt (Nat.lt_of_lt_of_le (Heap.lt_size e) (I.ok.cab x c hfn hc)))).trans (I.base.keep b o e n hb hx)
    · obtain ⟨sl, e1⟩ := I.base.slot b o e n hb hx
      exact ⟨sl, (hs.2 b (Nat.ne_of_lt (Nat.lt_of_lt_of_le (Heap.lt_size e) (I.ok.cab x c hfn hc)))).trans e1⟩
    · obtain ⟨o', e1⟩ := I.base.there b o e hx
      exact ⟨o', (hs.2 b (Nat.ne_of_lt (Nat.lt_of_lt_of_le (Heap.lt_size e) (I.ok.cab x c hfn hc)))).trans e1⟩
    · by_cases hj : j = i
      · subst hj
        rw [hi] at e1; cases e1
        rw [List.getElem?_set_self hiσ] at e2
        cases e2
        exact ⟨u, r, .inr ⟨.inl hk, c, hc, hc'⟩⟩
      · rw [List.getElem?_set_ne (Ne.symm hj)] at e2
        obtain ⟨u', r', q⟩ := hl j y v' e1 e2 e3
        refine ⟨u', r', ?_⟩
        rcases q with q | ⟨k, c', e, z'⟩
        · exact .inl q
        · refine .inr ⟨k, c', e, z'.sameBut hs ?_⟩
          rintro rfl
          exact hj (nodup_ix hN e1 (I.ok.inj _ _ _ e hc ▸ hi))
    · by_cases hcc : c' = c
      · subst hcc; exact ⟨_, hc'⟩
      · obtain ⟨w2, z2⟩ := I.cell y c' e
        exact ⟨w2, z2.sameBut hs hcc⟩
    · obtain ⟨e, n, ne, nf, d⟩ := I.pin p hp
      refine ⟨(hs.2 p.1 ?_).trans e, n, ne, nf, d⟩
      intro q
      rw [q, hoc] at e
      have q' : oc = p.2 := Option.some.inj e
      exact d w' (by rw [← q']; exact hocd)
theorem store_ok {M : Model} {A : Around} {E : Value → Shared → Prop} {i : Nat} {x : Str} {v : V} {u : Value} {Q : Unit → Shared → Prop} (I : Inv X pins σ H s) (hN : X.N.Nodup) (hi : X.N[i]? = some x) (hx : Loc X.env.scope x) (r : RelV v u)
    (h : ∀ s', Inv X pins (σ.set i (some v)) H s' → Q () s') (hf : X.fn x = true ∨ X.env.scope.names.lookup x = some .local := by first | exact .inl rfl | exact .inr rfl | assumption) : wpAny M A (storeName X.env x u) Q E s :=
  store_ok2 I hN hi hx r (fun s' I' _ => h s' I') hf
/-- behind a call or a block, the state as it is -/
theorem Inv.call' {s' : Shared} {ch : List Addr} (I : Inv X pins σ H s) (ho : s'.os = s.os) (u : Un (frs X.stack) ch H H' s.heap s'.heap) (hok : HOk X.prog X.w H' s'.heap) (hg : AllBare s'.gens)
    (hch : ∀ b ∈ ch, (b ∈ X.ex ∨ X.s₀.heap.objs.size ≤ b) ∧ b ≠ X.env.locals ∧ (∀ x c, X.env.cells.lookup x = some c → c ≠ b) ∧ ∀ p ∈ X.pn ++ pins, p.1 ≠ b) : Inv X pins σ H' s' := by
  obtain ⟨h', g', d', t', o'⟩ := s'
  have e : o' = s.os := ho
  subst e
  exact I.call (g' := g') (t' := t') (d' := d') u hok hg hch
end

/-! ### the judgements -/
/-- an exception: its class, its own dict's address (where it has one), the abstract heap behind it -/
abbrev XK := Value → Option Addr → Hp → Prop
abbrev St := List (Option V)
abbrev VK := V → Hp → Prop
/-- an expression's reading; a test's; an argument list's -/
abbrev TE := St → Hp → VK → Prop
abbrev TT := St → Hp → (Bool → Hp → Prop) → Prop
abbrev TA := St → Hp → (List V → Hp → Prop) → Prop
/-- what is wanted behind a statement -/
structure Ends where
  nx : St → Hp → Prop
  rt : VK
  bk : St → Hp → Prop := fun _ _ => False
  ct : St → Hp → Prop := fun _ _ => False
abbrev TS := Ends → St → Hp → Prop

def EP (X : Cx) (pins : List (Addr × Obj)) (σ : St) (Q : VK) (u : Value) (s' : Shared) : Prop := ∃ v H', Inv X pins σ H' s' ∧ RelV v u ∧ Q v H'
def TP (X : Cx) (pins : List (Addr × Obj)) (σ : St) (Q : Bool → Hp → Prop) (b : Bool) (s' : Shared) : Prop := ∃ H', Inv X pins σ H' s' ∧ Q b H'
def AP (X : Cx) (pins : List (Addr × Obj)) (σ : St) (Q : List V → Hp → Prop) (us : List Value) (s' : Shared) : Prop := ∃ vs H', Inv X pins σ H' s' ∧ Vals vs us ∧ Q vs H'
def SP (X : Cx) (pins : List (Addr × Obj)) (D : Ends) (f : Flow) (s' : Shared) : Prop :=
  match f with
  | .next => ∃ σ' H', Inv X pins σ' H' s' ∧ D.nx σ' H'
  | .brk => ∃ σ' H', Inv X pins σ' H' s' ∧ D.bk σ' H'
  | .cont => ∃ σ' H', Inv X pins σ' H' s' ∧ D.ct σ' H'
  | .ret u => ∃ v σ' H', Inv X pins σ' H' s' ∧ RelV v u ∧ D.rt v H'

def PE (X : Cx) (e : Expr) (t : TE) : Prop :=
  ∀ (pins : List (Addr × Obj)) (s : Shared) (σ : St) (H : Hp) (Q : VK), Inv X pins σ H s → t σ H Q → wpAny (model X.prog X.w) X.A (eval e X.env) (EP X pins σ Q) X.xe s
def PT (X : Cx) (e : Expr) (t : TT) : Prop :=
  ∀ (pins : List (Addr × Obj)) (s : Shared) (σ : St) (H : Hp) (Q : Bool → Hp → Prop), Inv X pins σ H s → t σ H Q → wpAny (model X.prog X.w) X.A (isTrue e X.env (eval e X.env)) (TP X pins σ Q) X.xe s
/-- a test whatever its 'whole' is (and, or) -/
def PW (X : Cx) (e : Expr) (t : TT) : Prop :=
  ∀ (whole : Sem Value) (pins : List (Addr × Obj)) (s : Shared) (σ : St) (H : Hp) (Q : Bool → Hp → Prop), Inv X pins σ H s → t σ H Q → wpAny (model X.prog X.w) X.A (isTrue e X.env whole) (TP X pins σ Q) X.xe s
theorem PW.pt {X : Cx} {e : Expr} {t : TT} (h : PW X e t) : PT X e t := h _
/-- an argument list (no star), from the left -/
def PA (X : Cx) (es : List Expr) (t : TA) : Prop :=
  ∀ (pos : Pos) (pins : List (Addr × Obj)) (s : Shared) (σ : St) (H : Hp) (Q : List V → Hp → Prop), Inv X pins σ H s → t σ H Q → wpAny (model X.prog X.w) X.A (spliced (backTo pos (starEach es X.env))) (AP X pins σ Q) X.xe s
def PS (X : Cx) (st : Stmt) (t : TS) : Prop :=
  ∀ (pins : List (Addr × Obj)) (s : Shared) (σ : St) (H : Hp) (D : Ends), Inv X pins σ H s → t D σ H → wpAny (model X.prog X.w) X.A (exec st X.env) (SP X pins D) X.xe s
def PSs (X : Cx) (st : List Stmt) (t : TS) : Prop :=
  ∀ (pins : List (Addr × Obj)) (s : Shared) (σ : St) (H : Hp) (D : Ends), Inv X pins σ H s → t D σ H → wpAny (model X.prog X.w) X.A (execs st X.env) (SP X pins D) X.xe s
/-- weaken the end -/
theorem thn {α : Type} {t : Sem α} {Q Q' : α → Shared → Prop} {M : Model} {A : Around} {E : Value → Shared → Prop} {s : Shared} (h : wpAny M A t Q E s) (hQ : ∀ a s, Q a s → Q' a s) : wpAny M A t Q' E s := wpAny_mono h hQ fun _ _ x => x
end L2

namespace L2
open PySem PySem.Spec PyProof.Rows
section
variable {X : Cx}

/-! ### names and constants -/
def tVar (i : Nat) : TE := fun σ H Q => ∃ v, σ[i]? = some (some v) ∧ Q v H
def tC (v : V) : TE := fun _ H Q => Q v H
theorem pe_var {i : Nat} {x : Str} {pos : Pos} (hN : X.N[i]? = some x) (hv : Vis X.env.scope x) (hd : (x == ("__debug__" : Str)) = false := by decide) (hcd : (x == ("__classdict__" : Str)) = false := by decide) : PE X (.Name x pos) (tVar i) := by
  intro pins s σ H Q I h
  obtain ⟨v, e, h⟩ := h
  obtain ⟨m, hn, hl⟩ := I.loc
  obtain ⟨u, r, l⟩ := hl i x v hN e hv
  have fin : EP X pins σ Q u s := ⟨v, H, I, r, h⟩
  rcases l with ⟨hk, hm⟩ | ⟨hk, c, hc, hcell⟩
  · exact wpAny_Name (wpAny_loadName_local I.ok.kind hk hn hm fin) hd
  · rcases hk with hk | hk
    · exact wpAny_Name (wpAny_loadName_cell I.ok.kind hk hc hcell fin) hd
    · exact wpAny_Name (wpAny_loadName_free I.ok.kind hk hc hcell fin hcd) hd
theorem pe_int {i j pos} : PE X (.Constant (.int i) j pos) (tC (.int i)) := fun _ _ _ H _ I h => wpAny_Constant_int ⟨.int i, H, I.tok _, ⟨_, rfl⟩, h⟩
theorem pe_bl {b j pos} : PE X (.Constant (.bool b) j pos) (tC (.bl b)) := fun _ _ _ H _ I h => Constant_bool ⟨.bl b, H, I, rfl, h⟩
/-- a global name of the def -/
def Gl (X : Cx) (x : Str) : Prop := X.env.kindOf x = some .globalImplicit
theorem ld_glob {E : Value → Shared → Prop} {pins : List (Addr × Obj)} {s : Shared} {σ : St} {H : Hp} {x : Str} {u : Value} {pos : Pos} {Q : Value → Shared → Prop} (I : Inv X pins σ H s) (hg : Gl X x) (hm : X.mg x = some u) (h : Q u s)
    (hd : (x == ("__debug__" : Str)) = false := by decide) : wpAny (model X.prog X.w) X.A (eval (.Name x pos) X.env) Q E s :=
  Calls.Name_function_global I.ok.kind hg (Calls.loadGlobal_global (by rw [I.ok.glob]; exact I.mod.glob.keeps I.bk) hm h) hd
theorem ld_blt {E : Value → Shared → Prop} {pins : List (Addr × Obj)} {s : Shared} {σ : St} {H : Hp} {x : Str} {u : Value} {pos : Pos} {Q : Value → Shared → Prop} (I : Inv X pins σ H s) (hg : Gl X x) (hm : X.mg x = none) (hv : bootBuiltins x = some u) (h : Q u s)
    (hn : x ≠ "__name__" := by decide) (hd : (x == ("__debug__" : Str)) = false := by decide) : wpAny (model X.prog X.w) X.A (eval (.Name x pos) X.env) Q E s := by
  obtain ⟨mb, h1, h2⟩ := I.mod.blt
  exact Calls.Name_function_global I.ok.kind hg (Calls.loadGlobal_builtin (by rw [I.ok.glob]; exact I.mod.glob.keeps I.bk) hm (by rw [I.ok.blt]; exact h1.keeps I.bk) ((h2 x hn).trans hv) h) hd
theorem pe_bltn {x : Str} {v : V} {u : Value} {pos : Pos} (hg : Gl X x) (hm : X.mg x = none) (hv : bootBuiltins x = some u) (r : RelV v u) (hn : x ≠ "__name__" := by decide) (hd : (x == ("__debug__" : Str)) = false := by decide) : PE X (.Name x pos) (tC v) :=
  fun _ _ _ H _ I h => ld_blt I hg hm hv ⟨v, H, I, r, h⟩ hn hd

/-! ### arithmetic -/
variable {a b : Expr} {ta tb : TE} {pos : Pos}
/-! ### comparisons -/
/-- a comparison as a value, as a test -/
def tB (t : TE) : TT := fun σ H Q => t σ H fun x H1 => ∃ c, x = .bl c ∧ Q c H1
/-- an expression whose value is a bool, as a test -/
theorem pt_val {e : Expr} {t : TE} (h : PE X e t) (he : ∀ whole, isTrue e X.env whole = (do let v ← whole; standAt e.pos; holding [v] (truthy v)) := by intro _; rfl) : PT X e (tB t) := by
  intro pins s σ H Q I hw
  refine isTrue_plain (thn (h pins s σ H _ I hw) fun v s1 ⟨x, H1, I1, r1, q1⟩ => ?_) (he _)
  obtain ⟨d, rfl, q⟩ := q1
  cases r1
  exact wpAny_truthy_bool ⟨H1, I1, q⟩

/-! ### and, or, not -/
variable {tA tB' : TT} {rest : List Expr}
def tAnd (t u : TT) : TT := fun σ H Q => t σ H fun c H1 => if c = true then u σ H1 Q else Q false H1
def tOr (t u : TT) : TT := fun σ H Q => t σ H fun c H1 => if c = true then Q true H1 else u σ H1 Q
def tNot (t : TT) : TT := fun σ H Q => t σ H fun c H1 => Q (!c) H1
theorem pw_and1 (ha : PT X a tA) : PW X (.BoolOp .And [a] pos) tA := by
  intro wh pins s σ H Q I h
  refine isTrue_and (thn (ha pins s σ H Q I h) fun c s1 e => ?_)
  cases c with
  | true => exact isTrue_and_nil e
  | false => exact e
theorem pw_or1 (ha : PT X a tA) : PW X (.BoolOp .Or [a] pos) tA := by
  intro wh pins s σ H Q I h
  refine isTrue_or (thn (ha pins s σ H Q I h) fun c s1 e => ?_)
  cases c with
  | false => exact isTrue_or_nil e
  | true => exact e
theorem pw_and (ha : PT X a tA) (hb : PW X (.BoolOp .And (b :: rest) pos) tB') : PW X (.BoolOp .And (a :: b :: rest) pos) (tAnd tA tB') := by
  intro wh pins s σ H Q I h
  refine isTrue_and (thn (ha pins s σ H _ I h) fun c s1 ⟨H1, I1, q1⟩ => ?_)
  cases c with
  | true => exact hb wh pins s1 σ H1 Q I1 q1
  | false => exact ⟨H1, I1, q1⟩
theorem pw_or (ha : PT X a tA) (hb : PW X (.BoolOp .Or (b :: rest) pos) tB') : PW X (.BoolOp .Or (a :: b :: rest) pos) (tOr tA tB') := by
  intro wh pins s σ H Q I h
  refine isTrue_or (thn (ha pins s σ H _ I h) fun c s1 ⟨H1, I1, q1⟩ => ?_)
  cases c with
  | true => exact ⟨H1, I1, q1⟩
  | false => exact hb wh pins s1 σ H1 Q I1 q1
theorem pt_not (ha : PT X a tA) : PT X (.UnaryOp .Not a pos) (tNot tA) := by
  intro pins s σ H Q I h
  exact isTrue_not (ha pins s σ H (fun c H1 => Q (!c) H1) I h)
end
end L2

namespace L2
open PySem PySem.Spec PyProof.Rows

/-! ### a list, a tuple that is read: tracked, frozen, or an object of the module -/
def SqL (K : PySem.W.Frag) (H : Hp) (a : Addr) (xs : List V) : Prop :=
  Rd H a (.lst xs) ∨
    ∃ (o : Obj) (its : Array Value) (n : Nat), K.lookup a = some o ∧ o.cls = .type "list" ∧ o.dict = none ∧ o.data = .seq its n ∧ its.size ≤ sizeLine ∧ Vals xs its.toList
def SqT (K : PySem.W.Frag) (H : Hp) (a : Addr) (xs : List V) : Prop :=
  Rd H a (.tup xs) ∨
    ∃ (o : Obj) (its : Array Value) (n : Nat), K.lookup a = some o ∧ o.cls = .type "tuple" ∧ o.data = .seq its n ∧ its.size ≤ sizeLine ∧ Vals xs its.toList
def absV : Value → Option V
  | .none => some .non
  | .bool b => some (.bl b)
  | .int i _ => some (.int i)
  | .str x _ => some (.str x)
  | .bytes b _ => some (.byt b)
  | .float b _ => some (.flt b)
  | .ref a => some (.ref a)
  | .type n => some (.ty n)
  | _ => none
theorem RelV.abs {x : V} {u : Value} (r : RelV x u) : absV u = some x := by
  cases x with
  | non => cases r; rfl
  | bl _ => cases r; rfl
  | int _ => obtain ⟨t, rfl⟩ := r; rfl
  | str _ => obtain ⟨t, rfl⟩ := r; rfl
  | byt _ => obtain ⟨t, rfl⟩ := r; rfl
  | flt _ => obtain ⟨t, rfl⟩ := r; rfl
  | ref _ => cases r; rfl
  | ty _ => cases r; rfl
theorem RelV.inj {x y : V} {u : Value} (r : RelV x u) (q : RelV y u) : x = y := Option.some.inj (r.abs.symm.trans q.abs)
theorem Vals.inj : ∀ {xs ys : List V} {us : List Value}, Vals xs us → Vals ys us → xs = ys
  | _, _, _, .nil, .nil => rfl
  | _, _, _, .cons r t, .cons r' t' => by rw [r.inj r', Vals.inj t t']
section
variable {X : Cx} {pins : List (Addr × Obj)} {σ : St} {H : Hp} {s : Shared} {a : Addr} {xs ys : List V}
theorem SqL.of {K : PySem.W.Frag} (h : H a = some (.lst xs)) : SqL K H a xs := .inl (.inl h)
theorem SqT.of {K : PySem.W.Frag} (h : H a = some (.tup xs)) : SqT K H a xs := .inl (.inl h)
theorem Inv.list (I : Inv X pins σ H s) (h : SqL X.K H a xs) : ∃ its : List Value, Vals xs its ∧ PlainL s.heap a its.toArray ∧ xs.length ≤ sizeLine := by
  rcases h with h | ⟨o, its, n, hk, hc, hd, hs, hz, r⟩
  · obtain ⟨z, its, n, r, e⟩ := h.ok I.hok
    exact ⟨its, r, ⟨_, n, e, rfl, rfl, rfl⟩, z⟩
  · refine ⟨its.toList, r, ⟨o, n, I.kIn a o hk, hc, hd, by simpa using hs⟩, ?_⟩
    have e := r.length
    simp only [Array.length_toList] at e
    omega
theorem Inv.tuple (I : Inv X pins σ H s) (h : SqT X.K H a xs) : ∃ its : List Value, Vals xs its ∧ IsTup s.heap a its.toArray ∧ xs.length ≤ sizeLine := by
  rcases h with h | ⟨o, its, n, hk, hc, hs, hz, r⟩
  · obtain ⟨z, its, r, p⟩ := h.ok I.hok
    exact ⟨its, r, p, z⟩
  · refine ⟨its.toList, r, ⟨o, I.kIn a o hk, hc, n, by simpa using hs⟩, ?_⟩
    have e := r.length
    simp only [Array.length_toList] at e
    omega
theorem Inv.list_inj (I : Inv X pins σ H s) (h : SqL X.K H a xs) (h' : SqL X.K H a ys) : xs = ys := by
  obtain ⟨its, r, ⟨o, n, e, _, _, d⟩, _⟩ := I.list h
  obtain ⟨its', r', ⟨o', n', e', _, _, d'⟩, _⟩ := I.list h'
  rw [e] at e'; cases e'
  rw [d] at d'
  injection d' with d1 _
  have : its = its' := by simpa using congrArg Array.toList d1
  subst this
  exact r.inj r'
theorem Inv.tuple_inj (I : Inv X pins σ H s) (h : SqT X.K H a xs) (h' : SqT X.K H a ys) : xs = ys := by
  obtain ⟨its, r, ⟨o, e, _, n, d⟩, _⟩ := I.tuple h
  obtain ⟨its', r', ⟨o', e', _, n', d'⟩, _⟩ := I.tuple h'
  rw [e] at e'; cases e'
  rw [d] at d'
  injection d' with d1 _
  have : its = its' := by simpa using congrArg Array.toList d1
  subst this
  exact r.inj r'
end

/-! ### another wish about exceptions -/
abbrev Cx.wish (X : Cx) (E : Value → Shared → Prop) : Cx := { X with xe := E }
/-- no exception leaves -/
abbrev Cx.nox (X : Cx) : Cx := X.wish fun _ _ => False
theorem Cx.Ok.wish {X : Cx} (ok : X.Ok) (E : Value → Shared → Prop) : (X.wish E).Ok :=
  ⟨ok.mod, ok.kind, ok.glob, ok.blt, ok.above, ok.inj, ok.has, ok.cab, ok.hd, ok.frames, ok.stk, ok.exf, ok.bs, ok.bsz, ok.noex, ok.exfs, ok.funs, ok.frf⟩
theorem Cx.Ok.unwish {X : Cx} {E : Value → Shared → Prop} (ok : (X.wish E).Ok) : X.Ok :=
  ⟨ok.mod, ok.kind, ok.glob, ok.blt, ok.above, ok.inj, ok.has, ok.cab, ok.hd, ok.frames, ok.stk, ok.exf, ok.bs, ok.bsz, ok.noex, ok.exfs, ok.funs, ok.frf⟩
section
variable {X : Cx} {pins : List (Addr × Obj)} {σ : St} {H : Hp} {s : Shared} {E : Value → Shared → Prop}
theorem Inv.wish (I : Inv X pins σ H s) (E : Value → Shared → Prop) : Inv (X.wish E) pins σ H s := ⟨I.ok.wish E, I.os, I.bare, I.base, I.loc, I.cell, I.free, I.freeC, I.pin, I.hok, I.len⟩
theorem Inv.unwish (I : Inv (X.wish E) pins σ H s) : Inv X pins σ H s := ⟨I.ok.unwish, I.os, I.bare, I.base, I.loc, I.cell, I.free, I.freeC, I.pin, I.hok, I.len⟩
theorem SP.unwish {D : Ends} {f : Flow} {s' : Shared} (h : SP (X.wish E) pins D f s') : SP X pins D f s' := by
  cases f with
  | next => obtain ⟨σ', H', I, q⟩ := h; exact ⟨σ', H', I.unwish, q⟩
  | brk => obtain ⟨σ', H', I, q⟩ := h; exact ⟨σ', H', I.unwish, q⟩
  | cont => obtain ⟨σ', H', I, q⟩ := h; exact ⟨σ', H', I.unwish, q⟩
  | ret u => obtain ⟨v, σ', H', I, r, q⟩ := h; exact ⟨v, σ', H', I.unwish, r, q⟩
theorem PSs.nox {st : List Stmt} {t : TS} (h : PSs X.nox st t) : PSs X st t := fun pins s σ H D I hw =>
  wpAny_mono (h pins s σ H D (I.wish _) hw) (fun _ _ q => q.unwish) fun _ _ z => False.elim z
end

/-! ### blocks and small statements -/
section
variable {X : Cx} {st : Stmt} {rest : List Stmt} {t u : TS} {e : Expr} {te : TE} {pos : Pos}
def tNext : TS := fun D σ H => D.nx σ H
def tSeq (t u : TS) : TS := fun D σ H => t { D with nx := u D } σ H
theorem pss_nil : PSs X [] tNext := fun _ _ σ H _ I h => wpAny_execs_nil ⟨σ, H, I, h⟩
theorem pss_cons (h1 : PS X st t) (h2 : PSs X rest u) : PSs X (st :: rest) (tSeq t u) := by
  intro pins s σ H D I h
  refine wpAny_execs_cons (thn (h1 pins s σ H { D with nx := u D } I h) fun f s1 q => ?_)
  cases f with
  | next =>
    obtain ⟨σ', H', I', q⟩ := q
    exact h2 pins s1 σ' H' D I' q
  | ret v => exact q
  | brk => exact q
  | cont => exact q
theorem pss_one (h1 : PS X st t) : PSs X [st] t := by
  intro pins s σ H D I h
  refine wpAny_execs_cons (thn (h1 pins s σ H D I h) fun f s1 q => ?_)
  cases f with
  | next => exact wpAny_execs_nil q
  | ret v => exact q
  | brk => exact q
  | cont => exact q
/-- in a def's body nothing is shown -/
theorem Inv.quiet {pins : List (Addr × Obj)} {σ : St} {H : Hp} {s : Shared} (I : Inv X pins σ H s) : interactive X.env = false := by simp [interactive, I.ok.kind]
/-- an expression whose value is dropped -/
def tDrop (te : TE) : TS := fun D σ H => te σ H fun _ H1 => D.nx σ H1
theorem ps_expr (he : PE X e te) (hs : swapsWith e none pos.line X.env = pure false := by rfl) : PS X (.Expr e pos) (tDrop te) := by
  intro pins s σ H D I h
  exact wpAny_Expr_any (thn (he pins s σ H _ I h) fun v s1 ⟨x, H1, I1, r1, q1⟩ => ⟨σ, H1, I1, q1⟩) I.quiet hs
def tRet (te : TE) : TS := fun D σ H => te σ H D.rt
theorem ps_ret (he : PE X e te) : PS X (.Return (some e) pos) (tRet te) := by
  intro pins s σ H D I h
  exact wpAny_Return_some (thn (he pins s σ H _ I h) fun v s1 ⟨x, H1, I1, r1, q1⟩ => ⟨x, σ, H1, I1, r1, q1⟩)
def tIfS (c : TT) (t u : TS) : TS := fun D σ H => c σ H fun b H1 => if b = true then t D σ H1 else u D σ H1
theorem ps_if {c : Expr} {a b : List Stmt} {tc : TT} (hc : PT X c tc) (ha : PSs X a t) (hb : PSs X b u) : PS X (.If c a b pos) (tIfS tc t u) := by
  intro pins s σ H D I h
  refine wpAny_If (thn (hc pins s σ H _ I h) fun d s1 ⟨H1, I1, q1⟩ => ?_)
  cases d with
  | true => exact ha pins s1 σ H1 D I1 q1
  | false => exact hb pins s1 σ H1 D I1 q1
end

/-! ### targets -/
abbrev TG := V → St → Hp → (St → Hp → Prop) → Prop
abbrev TGs := List V → St → Hp → (St → Hp → Prop) → Prop
def PG (X : Cx) (target : Expr) (t : TG) : Prop :=
  ∀ (pins : List (Addr × Obj)) (s : Shared) (σ : St) (H : Hp) (v : V) (u : Value) (Q : St → Hp → Prop), Inv X pins σ H s → RelV v u → t v σ H Q →
    wpAny (model X.prog X.w) X.A (assign target X.env u) (fun _ s' => ∃ σ' H', Inv X pins σ' H' s' ∧ Q σ' H') X.xe s
/-- several targets, one after another -/
def PGs (X : Cx) (ts : List Expr) (t : TGs) : Prop :=
  ∀ (pins : List (Addr × Obj)) (s : Shared) (σ : St) (H : Hp) (vs : List V) (us : List Value) (Q : St → Hp → Prop), Inv X pins σ H s → Vals vs us → t vs σ H Q →
    wpAny (model X.prog X.w) X.A (assignInOrder ((assignEach ts X.env).map (·.2)) us) (fun _ s' => ∃ σ' H', Inv X pins σ' H' s' ∧ Q σ' H') X.xe s
/-- o[i] = v, by values -/
abbrev TSet := V → V → V → Hp → (Hp → Prop) → Prop
def PSet (X : Cx) (t : TSet) : Prop :=
  ∀ (pins : List (Addr × Obj)) (s : Shared) (σ : St) (H : Hp) (o i v : V) (ov iv u : Value) (Q : Hp → Prop), Inv X pins σ H s → RelV o ov → RelV i iv → RelV v u → t o i v H Q →
    wpAny (model X.prog X.w) X.A (setItem ov iv u) (fun _ s' => ∃ H', Inv X pins σ H' s' ∧ Q H') X.xe s
section
variable {X : Cx} {pos : Pos}
def gName (i : Nat) : TG := fun v σ H Q => Q (σ.set i (some v)) H
theorem pg_name {i : Nat} {x : Str} (hN : X.N.Nodup) (hi : X.N[i]? = some x) (hx : Loc X.env.scope x) (hf : X.fn x = true ∨ X.env.scope.names.lookup x = some .local := by first | exact .inl rfl | exact .inr rfl | assumption) : PG X (.Name x pos) (gName i) := by
  intro pins s σ H v u Q I r h
  exact wpAny_assign_Name (store_ok I hN hi hx r (fun s' I' => ⟨_, H, I', h⟩) hf)
def gNil : TGs := fun vs σ H Q => vs = [] ∧ Q σ H
def gCons (t : TG) (u : TGs) : TGs := fun vs σ H Q => ∃ v r, vs = v :: r ∧ t v σ H fun σ' H' => u r σ' H' Q
theorem pgs_nil : PGs X [] gNil := by
  intro pins s σ H vs us Q I r h
  obtain ⟨e, h⟩ := h
  subst e
  cases r
  exact assignInOrder_nil ⟨σ, H, I, h⟩
theorem pgs_cons {e : Expr} {es : List Expr} {t : TG} {u : TGs} (h1 : PG X e t) (h2 : PGs X es u)
    (hs : (assignEach (e :: es) X.env).map (·.2) = assign e X.env :: (assignEach es X.env).map (·.2) := by rfl) : PGs X (e :: es) (gCons t u) := by
  intro pins s σ H vs us Q I r h
  obtain ⟨v, vr, e1, h⟩ := h
  subst e1
  cases r with
  | cons r rr =>
    rw [hs]
    refine assignInOrder_cons (thn (h1 pins s σ H _ _ _ I r h) fun _ s1 ⟨σ1, H1, I1, q1⟩ => ?_)
    exact h2 pins s1 σ1 H1 _ _ Q I1 rr q1
/-- (a, b, ..) = a tuple of that length -/
def gTup (K : PySem.W.Frag) (n : Nat) (t : TGs) : TG := fun v σ H Q => ∃ a xs, v = .ref a ∧ SqT K H a xs ∧ xs.length = n ∧ t xs σ H Q
theorem pg_tup {es : List Expr} {k : Nat} {t : TGs} {n : Nat} (hc : X.calm = true) (h : PGs X es t)
    (hn : (assignEach es X.env).length = n := by rfl) (hst : (assignEach es X.env).findIdx? (·.1) = none := by rfl) : PG X (.Tuple es k pos) (gTup X.K n t) := by
  intro pins s σ H v u Q I r hw
  obtain ⟨a, xs, e1, hq, hl, hw⟩ := hw
  subst e1
  cases r
  obtain ⟨its, rv, ht, hz⟩ := I.tuple hq
  refine assign_Tuple_tuple (I.ok.hd hc) ht (by simp [hn, ← hl, rv.length]) hst fun h' hx => ?_
  have I1 : Inv X pins σ H { s with heap := h' } := I.kept (t' := s.toks) fun b o e => hx b o (Nat.ne_of_lt (Heap.lt_size e)) e
  exact h pins _ σ H xs _ Q I1 (by simpa using rv) hw
/-- o[i] = .. -/
def gSub (to ti : TE) (t : TSet) : TG := fun v σ H Q => to σ H fun o H1 => ti σ H1 fun i H2 => t o i v H2 fun H3 => Q σ H3
theorem pg_sub {o i : Expr} {to ti : TE} {t : TSet} (ho : PE X o to) (hi : PE X i ti) (hs : PSet X t)
    (ha : ∀ v, assign (.Subscript o i pos) X.env v = (do
      let ov ← holding [v] (eval o X.env)
      let iv ← holding [v, ov] (eval i X.env)
      standAt pos
      holding [v, ov, iv] (setItem ov iv v)
      release [v, ov, iv] []) := by intro _; rfl) : PG X (.Subscript o i pos) (gSub to ti t) := by
  intro pins s σ H v u Q I r h
  rw [ha]
  refine wpAny_bind (wpAny_holding (thn (ho pins s σ H _ I h) fun ov s1 ⟨x, H1, I1, r1, q1⟩ => ?_))
  refine wpAny_bind (wpAny_holding (thn (hi pins s1 σ H1 _ I1 q1) fun iv s2 ⟨y, H2, I2, r2, q2⟩ => ?_))
  refine wpAny_bind (wpAny_standAt (wpAny_bind (wpAny_holding (thn (hs pins s2 σ H2 x y v ov iv u _ I2 r1 r2 r q2) fun _ s3 ⟨H3, I3, q3⟩ => ?_))))
  exact wpAny_release ⟨σ, H3, I3, q3⟩
/-- target = value -/
def tAsg (te : TE) (g : TG) : TS := fun D σ H => te σ H fun x H1 => g x σ H1 D.nx
theorem ps_asg {tg e : Expr} {te : TE} {g : TG} (he : PE X e te) (hg : PG X tg g) (hs : swapsWithSole [tg] e pos.line X.env = pure false := by rfl) (hw : swappedStores [tg] e X.env = pure none := by rfl)
    (h1 : (assignEach [tg] X.env).map (·.2) = [assign tg X.env] := by rfl) : PS X (.Assign [tg] e pos) (tAsg te g) := by
  intro pins s σ H D I h
  refine wpAny_Assign_stores (thn (he pins s σ H _ I h) fun v s1 ⟨x, H1, I1, r1, q1⟩ => ?_) hs hw
  rw [h1]
  exact thn (hg pins s1 σ H1 x v _ I1 r1 q1) fun _ s2 q => q
/-- name = value -/
theorem ps_set {i : Nat} {x : Str} {e : Expr} {te : TE} {pos' : Pos} (hN : X.N.Nodup) (hi : X.N[i]? = some x) (hx : Loc X.env.scope x) (he : PE X e te) (hs : swapsWith e (some (.Name x pos')) pos.line X.env = pure false := by rfl) (hf : X.fn x = true ∨ X.env.scope.names.lookup x = some .local := by first | exact .inl rfl | exact .inr rfl | assumption) :
    PS X (.Assign [.Name x pos'] e pos) (tAsg te (gName i)) := by
  intro pins s σ H D I h
  refine wpAny_Assign_Name (thn (he pins s σ H _ I h) fun v s1 ⟨y, H1, I1, r1, q1⟩ => ?_) hs
  exact store_ok I1 hN hi hx r1 (fun s2 I2 => ⟨_, H1, I2, q1⟩) hf
end

/-! ### while -/
section
variable {X : Cx} {pos : Pos}
/-- the invariant W with its measure -/
def tWhile (c : TT) (tb : TS) : TS := fun D σ H => ∃ W : Nat → St → Hp → Prop, (∃ m, W m σ H) ∧ ∀ m σ H, W m σ H →
  c σ H fun b H1 => if b = true then ∃ N : St → Hp → Prop, (∀ σ' H', N σ' H' → ∃ m', m' < m ∧ W m' σ' H') ∧ tb { D with nx := N, ct := N, bk := D.nx } σ H1 else D.nx σ H1
theorem ps_while {c : Expr} {body : List Stmt} {tc : TT} {tb : TS} (hp : PassesOwn (model X.prog X.w) X.A X.env X.xe) (hc : PT X c tc) (hb : PSs X body tb) : PS X (.While c body [] pos) (tWhile tc tb) := by
  intro pins s σ H D I h
  obtain ⟨W, ⟨m0, w0⟩, turn⟩ := h
  refine wpAny_While (codeAny_whileLoop (fun n s' => ∃ σ' H', Inv X pins σ' H' s' ∧ W n σ' H') ?_ m0 ⟨σ, H, I, w0⟩)
  rintro n s1 ⟨σ1, H1, I1, w1⟩
  refine wpAny_passesOwn hp (thn (hc pins s1 σ1 H1 _ I1 (turn n σ1 H1 w1)) fun b s2 ⟨H2, I2, q2⟩ => ?_)
  cases b with
  | true =>
    obtain ⟨N, hN, q2⟩ := q2
    rw [if_pos rfl]
    refine wpAny_passesOwn hp (thn (hb pins s2 σ1 H2 _ I2 q2) fun f s3 q3 => ?_)
    cases f with
    | next =>
      obtain ⟨σ3, H3, I3, n3⟩ := q3
      obtain ⟨m', hm, w3⟩ := hN σ3 H3 n3
      exact ⟨m', hm, σ3, H3, I3, w3⟩
    | cont =>
      obtain ⟨σ3, H3, I3, n3⟩ := q3
      obtain ⟨m', hm, w3⟩ := hN σ3 H3 n3
      exact ⟨m', hm, σ3, H3, I3, w3⟩
    | brk => exact q3
    | ret v => exact q3
  | false =>
    rw [if_neg Bool.false_ne_true]
    exact wpAny_execs_nil ⟨σ1, H2, I2, q2⟩
end

/-! ### what a loop or a comprehension walks -/
/-- at turn i: it yields x (the heap may grow), or it stops -/
structure It where
  go : Nat → Hp → Prop
  yld : Nat → Hp → V → Hp → Prop
  stop : Nat → Hp → Prop
/-- the iterator's own objects may turn: they are not the frame's, not pinned, younger than the entry (or a comprehension's own) -/
def FpOk (X : Cx) (pins : List (Addr × Obj)) (H : Hp) (b : Addr) : Prop :=
  H b = none ∧ b ≠ X.env.locals ∧ b ∉ X.fs ∧ (b ∈ X.ex ∨ X.s₀.heap.objs.size ≤ b) ∧ (∀ x c, X.env.cells.lookup x = some c → c ≠ b) ∧ ∀ p ∈ X.pn ++ pins, p.1 ≠ b
theorem Inv.fpOk {X : Cx} {pins : List (Addr × Obj)} {σ : St} {H H' : Hp} {s : Shared} {b : Addr} (I : Inv X pins σ H s) (hb : s.heap.objs.size ≤ b) (hn : H' b = none) : FpOk X pins H' b := by
  refine ⟨hn, Nat.ne_of_gt (Nat.lt_of_lt_of_le I.lt hb), I.nofs hb, .inr (Nat.le_trans I.sz hb), fun x c e z => ?_, fun p hp z => ?_⟩
  · obtain ⟨v, q⟩ := I.cell x c e
    exact absurd (Nat.lt_of_lt_of_le q.lt (by rw [z]; exact hb)) (Nat.lt_irrefl _)
  · exact absurd (Nat.lt_of_lt_of_le (Heap.lt_size (I.pin p hp).1) (by rw [z]; exact hb)) (Nat.lt_irrefl _)
structure Turn (P : Program) (w : World) (K : PySem.W.Frag) (tg : Expr) (J : It) (fp : List Addr) (it : Addr) (tn : Nat → Heap → Prop) : Prop where
  mem : it ∈ fp
  obj : ∀ i h, tn i h → ∀ b ∈ fp, ∃ o, h.get? b = some o ∧ ∀ v, o.data ≠ .cell v
  keep : ∀ i h h', tn i h → (∀ b ∈ fp, ∀ o, h.get? b = some o → h'.get? b = some o) → tn i h'
  item : ∀ (X : Cx), X.prog = P → X.w = w → X.K = K → X.calm = true → ∀ (i : Nat) (pins : List (Addr × Obj)) (s : Shared) (σ : St) (H : Hp) (E : Value → Shared → Prop), Inv X pins σ H s → (∀ b ∈ fp, FpOk X pins H b) → tn i s.heap → J.go i H →
    wpAny (model P w) X.A (pyNext (.ref it)) (fun r s1 => ∃ u, r = some u ∧
      wpAny (model P w) X.A (letOwnedTupleGo tg (.ref it) u) (fun _ s2 => ∃ x H', Inv X pins σ H' s2 ∧ RelV x u ∧ J.yld i H x H' ∧ tn (i + 1) s2.heap ∧ ∀ b ∈ fp, H' b = none) E s1) E s
  done : ∀ (X : Cx), X.prog = P → X.w = w → X.K = K → X.calm = true → ∀ (i : Nat) (pins : List (Addr × Obj)) (s : Shared) (σ : St) (H : Hp) (E : Value → Shared → Prop), Inv X pins σ H s → (∀ b ∈ fp, FpOk X pins H b) → tn i s.heap → J.stop i H →
    wpAny (model P w) X.A (pyNext (.ref it)) (fun r s1 => r = none ∧ Inv X pins σ H s1) E s
  self : ∀ (A : Around) (i : Nat) (s : Shared) (Q : Value → Shared → Prop) (E : Value → Shared → Prop), tn i s.heap → Q (.ref it) s → wpAny (model P w) A (pyIter (.ref it)) Q E s
abbrev TI := St → Hp → (It → Hp → Prop) → Prop
/-- an iterator has come -/
def PIE (X : Cx) (pins : List (Addr × Obj)) (σ : St) (tg : Expr) (R : It → Hp → Prop) (itv : Value) (s2 : Shared) : Prop :=
  ∃ (it : Addr) (fp : List Addr) (tn : Nat → Heap → Prop) (J : It) (H' : Hp), itv = .ref it ∧ Inv X pins σ H' s2 ∧ Turn X.prog X.w X.K tg J fp it tn ∧ tn 0 s2.heap ∧ (∀ b ∈ fp, FpOk X pins H' b) ∧ R J H'
def PI (X : Cx) (tg iter : Expr) (wi : TI) : Prop :=
  ∀ (pins : List (Addr × Obj)) (s : Shared) (σ : St) (H : Hp) (R : It → Hp → Prop), Inv X pins σ H s → wi σ H R →
    wpAny (model X.prog X.w) X.A (eval iter X.env) (fun v s1 => wpAny (model X.prog X.w) X.A (pyIter v) (PIE X pins σ tg R) X.xe s1) X.xe s

/-- the step ahead of the store is nothing for an iterator that keeps no tuple -/
theorem go_of {M : Model} {A : Around} {E : Value → Shared → Prop} {s : Shared} {tg : Expr} {it : Addr} {u : Value} {o : Obj} {n : String} {vs : Array Value} {Q : Unit → Shared → Prop} (ho : s.heap.get? it = some o) (hc : o.cls = .type n) (hd : o.data = .fields vs)
    (hn : ["enumerate", "zip", "dict_itemiterator", "dict_reverseitemiterator", "odict_iterator", "itertools.zip_longest", "itertools.pairwise"].contains n = false) (hQ : Q () s) : wpAny M A (letOwnedTupleGo tg (.ref it) u) Q E s := by
  unfold letOwnedTupleGo
  cases tg <;> first
    | exact wpAny_pure hQ
    | (cases u <;> first
        | exact wpAny_pure hQ
        | (refine wpAny_bind (wpAny_load ho ?_)
           rw [hc, hd]
           show wpAny M A (if (["enumerate", "zip", "dict_itemiterator", "dict_reverseitemiterator", "odict_iterator", "itertools.zip_longest", "itertools.pairwise"].contains n && vs[0]? == some (rawInt _)) = true then _ else _) Q E s
           rw [if_neg (by intro h; rw [hn, Bool.false_and] at h; cases h)]
           exact wpAny_pure hQ))

/-- the list at a, as it stands at each turn (a loop may append to it) -/
def Itl (K : PySem.W.Frag) (a : Addr) : It :=
  ⟨fun i H => ∃ xs x, SqL K H a xs ∧ xs[i]? = some x, fun i H x H' => H' = H ∧ ∀ xs, SqL K H a xs → xs[i]? = some x, fun i H => ∃ xs, SqL K H a xs ∧ xs.length ≤ i⟩
/-- lo, lo + 1, .. (n of them) -/
def Itr (lo : Int) (n : Nat) : It := ⟨fun i _ => i < n, fun i H x H' => H' = H ∧ x = .int (lo + i), fun i _ => n ≤ i⟩
theorem turn_list {P : Program} {w : World} {K : PySem.W.Frag} {tg : Expr} (a it : Addr) : Turn P w K tg (Itl K a) [it] it (fun i h => h.IsListIter it a i) where
  mem := by simp
  obj := fun i h st b hb => by
    have e : b = it := by simpa using hb
    subst e
    obtain ⟨o, e, c, d⟩ := st
    exact ⟨o, e, fun v z => by rw [d] at z; cases z⟩
  keep := fun i h h' st k => st.at fun o e => k it (by simp) o e
  item := by
    intro X hP hw hK hc i pins s σ H E I hf st hg
    subst hP hw hK
    obtain ⟨xs, x, hq, hx⟩ := hg
    obtain ⟨its, rv, p, hz⟩ := I.list hq
    obtain ⟨u, hu, ru⟩ := rv.get hx
    obtain ⟨f0, f1, f2, f3, f4, f5⟩ := hf it (by simp)
    refine wpAny_pyNext_list_item st p.isList (x := u) (by simpa using hu) fun h' st' sb => ?_
    have I1 : Inv X pins σ H { s with heap := h' } := I.turned (t' := s.toks) (fun b o hb e => (sb.2 b hb).trans e) f0 f1 f3 f4 f5
    obtain ⟨o, e, c, d⟩ := id st'
    exact ⟨u, rfl, go_of (s := { s with heap := h' }) e c d (by decide) ⟨x, H, I1, ru, ⟨rfl, fun ys hy => by rw [I.list_inj hy hq]; exact hx⟩, st', fun b hb => (hf b hb).1⟩⟩
  done := by
    intro X hP hw hK hc i pins s σ H E I hf st hg
    subst hP hw hK
    obtain ⟨xs, hq, hx⟩ := hg
    obtain ⟨its, rv, p, hz⟩ := I.list hq
    obtain ⟨f0, f1, f2, f3, f4, f5⟩ := hf it (by simp)
    have hl := rv.length
    exact wpAny_pyNext_list_end (I.ok.hd hc) st p.isList (by simp; omega) fun h' eb => ⟨rfl, I.turned (t' := s.toks) (fun b o hb e => eb b o hb e) f0 f1 f3 f4 f5⟩
  self := fun _ _ _ _ _ st h => wpAny_pyIter_listiter st h
theorem turn_range {P : Program} {w : World} {K : PySem.W.Frag} {tg : Expr} (it : Addr) (lo : Int) (n : Nat) : Turn P w K tg (Itr lo n) [it] it (fun i h => IsRangeIter h it (lo + (i : Nat) * 1) ((n : Int) - (i : Nat)) 1) where
  mem := by simp
  obj := fun i h st b hb => by
    have e : b = it := by simpa using hb
    subst e
    exact ⟨_, st, fun v z => by
      have z' : Data.fields _ = Data.cell v := z
      cases z'⟩
  keep := fun i h h' st k => k it (by simp) _ st
  item := by
    intro X hP hw hK hc i pins s σ H E I hf st hg
    subst hP hw hK
    obtain ⟨f0, f1, f2, f3, f4, f5⟩ := hf it (by simp)
    have W := Walks.range (prog := X.prog) (w := X.w) (I.ok.hd hc) it lo 1 n
    refine W.item i s _ _ hg st fun v h' tk hv st' kk => ?_
    obtain ⟨t, rfl⟩ := hv
    have I1 : Inv X pins σ H { s with heap := h', toks := tk } := I.turned (fun b o hb e => kk b o (by simpa using hb) e) f0 f1 f3 f4 f5
    refine ⟨_, rfl, go_of (s := { s with heap := h', toks := tk }) (n := "range_iterator") st' rfl rfl (by decide) ⟨.int (lo + i), H, I1, ⟨t, ?_⟩, ⟨rfl, rfl⟩, st', fun b hb => (hf b hb).1⟩⟩
    rw [Int.mul_one]
  done := by
    intro X hP hw hK hc i pins s σ H E I hf st hg
    subst hP hw hK
    obtain ⟨f0, f1, f2, f3, f4, f5⟩ := hf it (by simp)
    exact wpAny_pyNext_range_end (I.ok.hd hc) st (by have : n ≤ i := hg; omega) fun h' eb => ⟨rfl, I.turned (t' := s.toks) (fun b o hb e => eb b o hb e) f0 f1 f3 f4 f5⟩
  self := fun _ _ _ _ _ st h => wpAny_pyIter_rangeiter st h
end L2

namespace L2
open PySem PySem.Spec PyProof.Rows
section
variable {X : Cx} {tg : Expr}
def iList (K : PySem.W.Frag) (tl : TE) : TI := fun σ H R => tl σ H fun x H1 => ∃ a, x = .ref a ∧ (∃ xs, SqL K H1 a xs) ∧ R (Itl K a) H1
theorem pi_list {l : Expr} {tl : TE} (hl : PE X l tl) : PI X tg l (iList X.K tl) := by
  intro pins s σ H R I h
  refine thn (hl pins s σ H _ I h) fun v s1 ⟨x, H1, I1, r1, q1⟩ => ?_
  obtain ⟨a, e, ⟨xs, hq⟩, q⟩ := q1
  subst e
  cases r1
  obtain ⟨its, rv, p, hz⟩ := I1.list hq
  refine wpAny_pyIter_list p.isList ?_
  refine ⟨s1.heap.objs.size, [s1.heap.objs.size], _, _, H1, rfl, I1.kept (t' := s1.toks) fun b o e => Heap.get?_push_of_some _ e, turn_list a _, ⟨_, Heap.get?_push_size _ rfl, rfl, rfl⟩, fun b hb => ?_, q⟩
  have e : b = s1.heap.objs.size := by simpa using hb
  subst e
  exact I1.fpOk (Nat.le_refl _) (I1.hok.fresh (Nat.le_refl _))
/-- a range object just made, walked -/
theorem range_it {pins : List (Addr × Obj)} {σ : St} {H : Hp} {s : Shared} {R : It → Hp → Prop} {E : Value → Shared → Prop} {lo hi : Int} {t u v : Tok} {tk : Nat} (I : Inv X pins σ H s) (h1 : -(2 ^ 62) ≤ lo) (h2 : lo < 2 ^ 62) (h3 : -(2 ^ 62) ≤ hi) (h4 : hi < 2 ^ 62)
    (q : R (Itr lo (hi - lo).toNat) H) : wpAny (model X.prog X.w) X.A (pyIter (.ref s.heap.objs.size)) (PIE X pins σ tg R) E { s with heap := s.heap.push { cls := .type "range", data := .fields #[.int lo t, .int hi u, .int 1 v] }, toks := tk } := by
  refine wpAny_pyIter_range (IsRange.new ..) (small_one h1 h2 h3 h4) ?_
  have I1 : Inv X pins σ H { s with heap := s.heap.push { cls := .type "range", data := .fields #[.int lo t, .int hi u, .int 1 v] }, toks := tk } := I.kept fun b o e => Heap.get?_push_of_some _ e
  refine ⟨(s.heap.push { cls := .type "range", data := .fields #[.int lo t, .int hi u, .int 1 v] }).objs.size, [(s.heap.push { cls := .type "range", data := .fields #[.int lo t, .int hi u, .int 1 v] }).objs.size], _, _, H, rfl,
    I1.kept (t' := tk) fun b o e => Heap.get?_push_of_some _ e, turn_range _ lo (hi - lo).toNat, ?_, fun b hb => ?_, q⟩
  · have e1 : lo + ((0 : Nat) : Int) * 1 = lo := by simp
    have e2 : (((hi - lo).toNat : Nat) : Int) - ((0 : Nat) : Int) = Builtin.Range.rangeSize lo hi 1 := by rw [rangeSize_one]; split <;> omega
    show IsRangeIter _ _ (lo + ((0 : Nat) : Int) * 1) ((((hi - lo).toNat : Nat) : Int) - ((0 : Nat) : Int)) 1
    rw [e1, e2]
    exact Heap.get?_push_size _ rfl
  · have e : b = (s.heap.push { cls := .type "range", data := .fields #[.int lo t, .int hi u, .int 1 v] }).objs.size := by simpa using hb
    subst e
    exact I1.fpOk (Nat.le_refl _) (I1.hok.fresh (Nat.le_refl _))
def iRng1 (ta : TA) : TI := fun σ H R => ta σ H fun vs H1 => ∃ j : Int, vs = [.int j] ∧ -(2 ^ 62) ≤ j ∧ j < 2 ^ 62 ∧ R (Itr 0 j.toNat) H1
def iRng2 (ta : TA) : TI := fun σ H R => ta σ H fun vs H1 => ∃ i j : Int, vs = [.int i, .int j] ∧ (-(2 ^ 62) ≤ i ∧ i < 2 ^ 62 ∧ -(2 ^ 62) ≤ j ∧ j < 2 ^ 62) ∧ R (Itr i (j - i).toNat) H1
theorem pi_range1 {a : Expr} {ta : TA} {p pos : Pos} (hg : Gl X "range") (hm : X.mg "range" = none) (ha : PA X [a] ta) (hs : starEach [a] X.env = [(false, eval a X.env)] := by rfl) : PI X tg (.Call (.Name "range" p) [a] [] pos) (iRng1 ta) := by
  intro pins s σ H R I h
  refine Call_ (ld_blt I hg hm boot_range (PyProof.Rows.callWith_type1 (thn (ha pos pins s σ H _ I h) fun us s1 ⟨vs, H1, I1, r1, q1⟩ => ?_) hs rfl))
  obtain ⟨j, e, q1, q2, q⟩ := q1
  subst e
  cases r1 with
  | cons r rr =>
    cases rr
    obtain ⟨t, rfl⟩ := r
    exact call_range_1 (range_it I1 (by omega) (by omega) q1 q2 (by simpa using q))
theorem pi_range2 {a b : Expr} {ta : TA} {p pos : Pos} (hg : Gl X "range") (hm : X.mg "range" = none) (ha : PA X [a, b] ta) (hs : starEach [a, b] X.env = [(false, eval a X.env), (false, eval b X.env)] := by rfl) (hs2 : starEach [b] X.env = [(false, eval b X.env)] := by rfl) :
    PI X tg (.Call (.Name "range" p) [a, b] [] pos) (iRng2 ta) := by
  intro pins s σ H R I h
  refine Call_ (ld_blt I hg hm boot_range (PyProof.Rows.callWith_type1 (thn (ha pos pins s σ H _ I h) fun us s1 ⟨vs, H1, I1, r1, q1⟩ => ?_) (by rw [hs, hs2]) (by rw [hs2]; rfl)))
  obtain ⟨i, j, e, ⟨q1, q2, q3, q4⟩, q⟩ := q1
  subst e
  cases r1 with
  | cons r rr =>
    cases rr with
    | cons r' rr =>
      cases rr
      obtain ⟨t, rfl⟩ := r
      obtain ⟨t', rfl⟩ := r'
      exact call_range_2 (range_it I1 q1 q2 q3 q4 q)

/-! ### for -/
/-- W: the invariant by the turn and a measure; N: what the body is to reach -/
def tFor (wi : TI) (g : TG) (tb : TS) : TS := fun D σ H => wi σ H fun J H1 => ∃ W : Nat → Nat → St → Hp → Prop, (∃ m, W 0 m σ H1) ∧ ∀ i m σ H, W i m σ H →
  (J.stop i H ∧ D.nx σ H) ∨ (J.go i H ∧ ∃ N : St → Hp → Prop, (∀ σ' H', N σ' H' → ∃ m', m' < m ∧ W (i + 1) m' σ' H') ∧ ∀ x H', J.yld i H x H' → g x σ H' fun σ2 H2 => tb { D with nx := N, ct := N, bk := D.nx } σ2 H2)
/-- the records at fp as they stand -/
def pinsAt (fp : List Addr) (h : Heap) : List (Addr × Obj) := fp.filterMap fun b => (h.get? b).map fun o => (b, o)
theorem mem_pinsAt {fp : List Addr} {h : Heap} {b : Addr} {o : Obj} (hb : b ∈ fp) (e : h.get? b = some o) : (b, o) ∈ pinsAt fp h := List.mem_filterMap.mpr ⟨b, hb, by rw [e]; rfl⟩
theorem of_pinsAt {fp : List Addr} {h : Heap} {p : Addr × Obj} (hp : p ∈ pinsAt fp h) : p.1 ∈ fp ∧ h.get? p.1 = some p.2 := by
  obtain ⟨b, hb, e⟩ := List.mem_filterMap.mp hp
  cases q : h.get? b with
  | none => rw [q] at e; cases e
  | some o =>
    rw [q] at e
    have e' : (b, o) = p := Option.some.inj e
    subst e'
    exact ⟨hb, q⟩
theorem Inv.pinned {pins : List (Addr × Obj)} {σ : St} {H : Hp} {s : Shared} {fp : List Addr} (I : Inv X pins σ H s) (hf : ∀ b ∈ fp, FpOk X pins H b) (ho : ∀ b ∈ fp, ∃ o, s.heap.get? b = some o ∧ ∀ v, o.data ≠ .cell v) : Inv X (pins ++ pinsAt fp s.heap) σ H s :=
  I.pins_of fun p hp => (List.mem_append.mp hp).elim (fun z => I.pin p (List.mem_append_right _ z)) fun z => by
    obtain ⟨hb, e⟩ := of_pinsAt z
    obtain ⟨f0, f1, f2, _⟩ := hf p.1 hb
    obtain ⟨o, e', d⟩ := ho p.1 hb
    rw [e] at e'; cases e'
    exact ⟨e, f0, f1, f2, d⟩
theorem Inv.unpinned {pins pl : List (Addr × Obj)} {σ : St} {H : Hp} {s : Shared} (I : Inv X (pins ++ pl) σ H s) : Inv X pins σ H s := I.pins_of fun p hp => I.pin p (List.mem_append_right _ (List.mem_append_left _ hp))
theorem ps_for {iter : Expr} {body : List Stmt} {wi : TI} {g : TG} {tb : TS} {pos : Pos} (hp : PassesOwn (model X.prog X.w) X.A X.env X.xe) (hc : X.calm = true) (hi : PI X tg iter wi) (hg : PG X tg g) (hb : PSs X body tb)
    (hs : ∀ x, foldedSetIterable iter X.env x = pure x := by intro _; rfl) : PS X (.For tg iter body [] pos) (tFor wi g tb) := by
  intro pins s σ H D I h
  refine wpAny_For (thn (hi pins s σ H _ I h) fun v s1 h1 => thn h1 fun itv s2 h2 => ?_) hs
  obtain ⟨it, fp, tn, J, H2, e, I2, T, st2, f2, W, ⟨m0, w0⟩, turn⟩ := h2
  subst e
  -- what stays true of the iterator's objects through the loop
  have stat : ∀ {H' : Hp}, (∀ b ∈ fp, H' b = none) → ∀ b ∈ fp, FpOk X pins H' b := fun hn b hb => ⟨hn b hb, (f2 b hb).2⟩
  refine codeAny_forLoop_any (fun n s' => ∃ i σ' H', Inv X pins σ' H' s' ∧ tn i s'.heap ∧ (∀ b ∈ fp, H' b = none) ∧ W i n σ' H') ?_ m0 ⟨0, σ, H2, I2, st2, fun b hb => (f2 b hb).1, w0⟩
  rintro n s3 ⟨i, σ3, H3, I3, st3, fr3, w3⟩
  rcases turn i n σ3 H3 w3 with ⟨stop, qn⟩ | ⟨go, N, hN, step⟩
  · refine wpAny_passesOwn hp (thn (T.done X rfl rfl rfl hc i pins s3 σ3 H3 X.xe I3 (stat fr3) st3 stop) fun r s4 ⟨hr, I4⟩ => ?_)
    subst hr
    exact wpAny_execs_nil ⟨σ3, H3, I4, qn⟩
  · refine wpAny_passesOwn hp (thn (T.item X rfl rfl rfl hc i pins s3 σ3 H3 X.xe I3 (stat fr3) st3 go) fun r s4 ⟨u, hr, h4⟩ => ?_)
    subst hr
    refine wpAny_passesOwn hp (thn h4 fun _ s5 ⟨x, H5, I5, r5, y5, st5, fr5⟩ => ?_)
    have I5' := I5.pinned (stat fr5) (T.obj _ _ st5)
    refine wpAny_passesOwn hp (thn (hg _ s5 σ3 H5 x u _ I5' r5 (step x H5 y5)) fun _ s6 ⟨σ6, H6, I6, q6⟩ => ?_)
    refine wpAny_passesOwn hp (thn (hb _ s6 σ6 H6 _ I6 q6) fun f s7 q7 => ?_)
    have again : ∀ {σ7 : St} {H7 : Hp}, Inv X (pins ++ pinsAt fp s5.heap) σ7 H7 s7 → N σ7 H7 → ∃ m, m < n ∧ ∃ i σ' H', Inv X pins σ' H' s7 ∧ tn i s7.heap ∧ (∀ b ∈ fp, H' b = none) ∧ W i m σ' H' := fun {σ7 H7} I7 n7 => by
      obtain ⟨m', hm, w7⟩ := hN σ7 H7 n7
      refine ⟨m', hm, i + 1, σ7, H7, I7.unpinned, T.keep _ _ _ st5 fun b hb o e => (I7.pin (b, o) (List.mem_append_right _ (List.mem_append_right _ (mem_pinsAt hb e)))).1, fun b hb => ?_, w7⟩
      obtain ⟨o, e, d⟩ := T.obj _ _ st5 b hb
      exact (I7.pin (b, o) (List.mem_append_right _ (List.mem_append_right _ (mem_pinsAt hb e)))).2.1
    cases f with
    | next => obtain ⟨σ7, H7, I7, n7⟩ := q7; exact again I7 n7
    | cont => obtain ⟨σ7, H7, I7, n7⟩ := q7; exact again I7 n7
    | brk => obtain ⟨σ7, H7, I7, q7⟩ := q7; exact ⟨σ7, H7, I7.unpinned, q7⟩
    | ret v => obtain ⟨x7, σ7, H7, I7, r7, q7⟩ := q7; exact ⟨x7, σ7, H7, I7.unpinned, r7, q7⟩
end

/-! ### the forms one uses -/
/-- over a list that the body leaves as it is -/
theorem for_list {K : PySem.W.Frag} {a : Addr} {xs : List V} {g : TG} {tb : TS} {D : Ends} {σ : St} {H : Hp} (Pv : Nat → St → Hp → Prop) (h0 : Pv 0 σ H) (hl : ∀ i σ H, i ≤ xs.length → Pv i σ H → SqL K H a xs)
    (hs : ∀ i x σ H, xs[i]? = some x → Pv i σ H → g x σ H fun σ2 H2 => tb { D with nx := Pv (i + 1), ct := Pv (i + 1), bk := D.nx } σ2 H2) (hd : ∀ σ H, Pv xs.length σ H → D.nx σ H) :
    ∃ W : Nat → Nat → St → Hp → Prop, (∃ m, W 0 m σ H) ∧ ∀ i m σ H, W i m σ H →
      ((Itl K a).stop i H ∧ D.nx σ H) ∨ ((Itl K a).go i H ∧ ∃ N : St → Hp → Prop, (∀ σ' H', N σ' H' → ∃ m', m' < m ∧ W (i + 1) m' σ' H') ∧ ∀ x H', (Itl K a).yld i H x H' → g x σ H' fun σ2 H2 => tb { D with nx := N, ct := N, bk := D.nx } σ2 H2) := by
  refine ⟨fun i m σ H => m = xs.length - i ∧ i ≤ xs.length ∧ Pv i σ H, ⟨xs.length, by simp, Nat.zero_le _, h0⟩, ?_⟩
  rintro i m σ H ⟨rfl, hi, p⟩
  have q := hl i σ H hi p
  by_cases hlt : i < xs.length
  · refine .inr ⟨⟨xs, xs[i], q, by simp [hlt]⟩, Pv (i + 1), fun σ' H' p' => ⟨xs.length - (i + 1), by omega, rfl, hlt, p'⟩, fun x H' y => ?_⟩
    obtain ⟨e, y⟩ := y
    subst e
    exact hs i x σ _ (y xs q) p
  · have e : i = xs.length := by omega
    subst e
    exact .inl ⟨⟨xs, q, Nat.le_refl _⟩, hd σ H p⟩
theorem for_range {lo : Int} {n : Nat} {g : TG} {tb : TS} {D : Ends} {σ : St} {H : Hp} (Pv : Nat → St → Hp → Prop) (h0 : Pv 0 σ H)
    (hs : ∀ i σ H, i < n → Pv i σ H → g (.int (lo + i)) σ H fun σ2 H2 => tb { D with nx := Pv (i + 1), ct := Pv (i + 1), bk := D.nx } σ2 H2) (hd : ∀ σ H, Pv n σ H → D.nx σ H) :
    ∃ W : Nat → Nat → St → Hp → Prop, (∃ m, W 0 m σ H) ∧ ∀ i m σ H, W i m σ H →
      ((Itr lo n).stop i H ∧ D.nx σ H) ∨ ((Itr lo n).go i H ∧ ∃ N : St → Hp → Prop, (∀ σ' H', N σ' H' → ∃ m', m' < m ∧ W (i + 1) m' σ' H') ∧ ∀ x H', (Itr lo n).yld i H x H' → g x σ H' fun σ2 H2 => tb { D with nx := N, ct := N, bk := D.nx } σ2 H2) := by
  refine ⟨fun i m σ H => m = n - i ∧ i ≤ n ∧ Pv i σ H, ⟨n, by simp, Nat.zero_le _, h0⟩, ?_⟩
  rintro i m σ H ⟨rfl, hi, p⟩
  by_cases hlt : i < n
  · refine .inr ⟨hlt, Pv (i + 1), fun σ' H' p' => ⟨n - (i + 1), by omega, rfl, hlt, p'⟩, fun x H' y => ?_⟩
    obtain ⟨e, y⟩ := y
    subst e y
    exact hs i σ _ hlt p
  · have e : i = n := by omega
    subst e
    exact .inl ⟨Nat.le_refl _, hd σ H p⟩
/-- while, by a word and a measure of the state -/
theorem while_by {c : TT} {tb : TS} {D : Ends} {σ : St} {H : Hp} (Pv : St → Hp → Prop) (μ : St → Hp → Nat) (h0 : Pv σ H)
    (hs : ∀ σ H, Pv σ H → c σ H fun b H1 => if b = true then tb { D with nx := fun σ' H' => Pv σ' H' ∧ μ σ' H' < μ σ H, ct := fun σ' H' => Pv σ' H' ∧ μ σ' H' < μ σ H, bk := D.nx } σ H1 else D.nx σ H1)
    (mono : ∀ σ H Q Q', (∀ b H1, Q b H1 → Q' b H1) → c σ H Q → c σ H Q') : tWhile c tb D σ H := by
  refine ⟨fun m σ H => m = μ σ H ∧ Pv σ H, ⟨_, rfl, h0⟩, ?_⟩
  rintro m σ H ⟨rfl, p⟩
  refine mono σ H _ _ (fun b H1 q => ?_) (hs σ H p)
  cases b with
  | true => exact ⟨_, fun σ' H' ⟨p', l⟩ => ⟨_, l, rfl, p'⟩, q⟩
  | false => exact q
end L2

namespace L2
open PySem PySem.Spec PyProof.Rows

abbrev R2 := V → V → Hp → VK → Prop
/-- a two-place operation on values: f is binaryOp op, inplaceOp op or compareOp op -/
def OpR (X : Cx) (f : Value → Value → Sem Value) (r : R2) : Prop :=
  ∀ (pins : List (Addr × Obj)) (s : Shared) (σ : St) (H : Hp) (x y : V) (v u : Value) (Q : VK), Inv X pins σ H s → RelV x v → RelV y u → r x y H Q →
    wpAny (model X.prog X.w) X.A (f v u) (EP X pins σ Q) X.xe s
/-- a call of a value that is known (a builtin, a type) with values -/
def CallR (X : Cx) (f : Value) (r : List V → Hp → VK → Prop) : Prop :=
  ∀ (pins : List (Addr × Obj)) (s : Shared) (σ : St) (H : Hp) (xs : List V) (us : List Value) (Q : VK), Inv X pins σ H s → Vals xs us → r xs H Q →
    wpAny (model X.prog X.w) X.A (call f us) (EP X pins σ Q) X.xe s
def tOp (r : R2) (ta tb : TE) : TE := fun σ H Q => ta σ H fun x H1 => tb σ H1 fun y H2 => r x y H2 Q
/-- ints in, under C, and a value out -/
def rI (C : Int → Int → Prop) (g : Int → Int → V) : R2 := fun x y H Q => ∃ i j, x = .int i ∧ y = .int j ∧ C i j ∧ Q (g i j) H
def rI0 (g : Int → Int → V) : R2 := fun x y H Q => ∃ i j, x = .int i ∧ y = .int j ∧ Q (g i j) H
section
variable {X : Cx} {a b c : Expr} {ta tb tc : TE} {pos : Pos}

theorem binT (ha : PE X a ta) (hb : PE X b tb) {pins : List (Addr × Obj)} {s : Shared} {σ : St} {H : Hp} {R : V → V → Hp → Prop} (I : Inv X pins σ H s)
    (h : ta σ H fun x H1 => tb σ H1 fun y H2 => R x y H2) {Q : Value → Shared → Prop} {f : Value → Value → Sem Value}
    (hf : ∀ v u s2 x y H2, Inv X pins σ H2 s2 → RelV x v → RelV y u → R x y H2 → wpAny (model X.prog X.w) X.A (f v u) Q X.xe s2) :
    wpAny (model X.prog X.w) X.A (eval a X.env) (fun v s₁ => wpAny (model X.prog X.w) X.A (eval b X.env) (fun u s₂ => wpAny (model X.prog X.w) X.A (f v u) Q X.xe s₂) X.xe s₁) X.xe s := by
  refine thn (ha pins s σ H _ I h) fun v s1 ⟨x, H1, I1, r1, q1⟩ => ?_
  refine thn (hb pins s1 σ H1 _ I1 q1) fun u s2 ⟨y, H2, I2, r2, q2⟩ => ?_
  exact hf v u s2 x y H2 I2 r1 r2 q2

theorem pe_op {op : Operator} {r : R2} (ho : OpR X (binaryOp op) r) (ha : PE X a ta) (hb : PE X b tb) : PE X (.BinOp a op b pos) (tOp r ta tb) := by
  intro pins s σ H Q I h
  exact wpAny_BinOp (binT ha hb I h fun v u s2 x y H2 I2 rx ry q => ho pins s2 σ H2 x y v u Q I2 rx ry q)
/-! ### ints -/
theorem opI {f : Value → Value → Sem Value} {C : Int → Int → Prop} {g : Int → Int → Int}
    (rule : ∀ (i j : Int) (t u : Tok) (s : Shared) (Q : Value → Shared → Prop) (E : Value → Shared → Prop), C i j → Q (.int (g i j) s.toks) { s with toks := s.toks + 1 } → wpAny (model X.prog X.w) X.A (f (.int i t) (.int j u)) Q E s) :
    OpR X f (rI C fun i j => .int (g i j)) := by
  intro pins s σ H x y v u Q I rx ry h
  obtain ⟨i, j, rfl, rfl, hc, q⟩ := h
  obtain ⟨t, rfl⟩ := rx
  obtain ⟨t', rfl⟩ := ry
  exact rule i j t t' s _ _ hc ⟨.int (g i j), H, I.tok _, ⟨_, rfl⟩, q⟩
theorem opI0 {f : Value → Value → Sem Value} {g : Int → Int → Int}
    (rule : ∀ (i j : Int) (t u : Tok) (s : Shared) (Q : Value → Shared → Prop) (E : Value → Shared → Prop), Q (.int (g i j) s.toks) { s with toks := s.toks + 1 } → wpAny (model X.prog X.w) X.A (f (.int i t) (.int j u)) Q E s) :
    OpR X f (rI0 fun i j => .int (g i j)) := by
  intro pins s σ H x y v u Q I rx ry h
  obtain ⟨i, j, rfl, rfl, q⟩ := h
  obtain ⟨t, rfl⟩ := rx
  obtain ⟨t', rfl⟩ := ry
  exact rule i j t t' s _ _ ⟨.int (g i j), H, I.tok _, ⟨_, rfl⟩, q⟩
theorem opB0 {f : Value → Value → Sem Value} {g : Int → Int → Bool}
    (rule : ∀ (i j : Int) (t u : Tok) (s : Shared) (Q : Value → Shared → Prop) (E : Value → Shared → Prop), Q (.bool (g i j)) s → wpAny (model X.prog X.w) X.A (f (.int i t) (.int j u)) Q E s) :
    OpR X f (rI0 fun i j => .bl (g i j)) := by
  intro pins s σ H x y v u Q I rx ry h
  obtain ⟨i, j, rfl, rfl, q⟩ := h
  obtain ⟨t, rfl⟩ := rx
  obtain ⟨t', rfl⟩ := ry
  exact rule i j t t' s _ _ ⟨.bl (g i j), H, I, rfl, q⟩

def CDiv (i j : Int) : Prop := 0 < j ∧ j < 1073741824
def CPow (i j : Int) : Prop := 0 ≤ j ∧ j ≤ 1000000 ∧ i.natAbs < 2 ^ 64
def CMul (i j : Int) : Prop := (-(2 ^ 64) < i ∧ i < 2 ^ 64) ∨ (-(2 ^ 64) < j ∧ j < 2 ^ 64)
theorem CMul.ok {i j : Int} (h : CMul i j) : IntMulOk i j := by
  rcases h with ⟨h1, h2⟩ | ⟨h1, h2⟩
  · exact .of_left (intBits_le_64 h1 h2)
  · exact .of_right (intBits_le_64 h1 h2)
theorem op_add : OpR X (binaryOp .Add) (rI0 fun i j => .int (i + j)) := opI0 fun _ _ _ _ _ _ _ q => add_int q
theorem op_sub : OpR X (binaryOp .Sub) (rI0 fun i j => .int (i - j)) := opI0 fun _ _ _ _ _ _ _ q => sub_int q
theorem op_mul : OpR X (binaryOp .Mult) (rI CMul fun i j => .int (i * j)) := opI fun _ _ _ _ _ _ _ hc q => mul_int q hc.ok
/-- // by a positive divisor -/
theorem op_fdiv : OpR X (binaryOp .FloorDiv) (rI CDiv fun i j => .int (i / j)) := opI fun i j _ _ _ _ _ hc q => by
  have h1 : (0 : Int) < j := hc.1
  have h2 : j < 1073741824 := hc.2
  exact floordiv_int (by omega) (by rw [Int.fdiv_eq_ediv_of_nonneg i (by omega)]; exact q) (.inl (PyProof.noPylong_small (by omega)))
/-- % by a positive divisor of any size -/
theorem op_mod : OpR X (binaryOp .Mod) (rI (fun _ j => 0 < j) fun i j => .int (i % j)) := opI fun i j _ _ _ _ _ hc q => by
  have h1 : (0 : Int) < j := hc
  exact mod_int' (by omega) (by rw [Int.fmod_eq_emod_of_nonneg i (by omega)]; exact q)
theorem op_pow : OpR X (binaryOp .Pow) (rI CPow fun i j => .int (i ^ j.toNat)) := opI fun _ _ _ _ _ _ _ hc q => pow_int_small hc.1 hc.2.1 hc.2.2 q
/-! ### bools among ints: n += (a < b) -/
end

/-! ### comparisons -/
/-- the scalars that == tells apart as data does -/
def scal : V → V → Bool
  | .non, .non => true | .non, .int _ => true | .int _, .non => true | .non, .bl _ => true | .bl _, .non => true | .non, .str _ => true | .str _, .non => true
  | .int _, .int _ => true | .bl _, .bl _ => true | .str _, .str _ => true | .byt _, .byt _ => true
  | .int _, .str _ => true | .str _, .int _ => true | .bl _, .str _ => true | .str _, .bl _ => true
  | _, _ => false
def rEq : R2 := fun x y H Q => scal x y = true ∧ Q (.bl (decide (x = y))) H
def rNe : R2 := fun x y H Q => scal x y = true ∧ Q (.bl (!decide (x = y))) H

theorem dec_int {i j : Int} : decide (V.int i = V.int j) = (i == j) := by
  rw [Bool.eq_iff_iff]
  simp
theorem dec_bl {i j : Bool} : decide (V.bl i = V.bl j) = (i == j) := by
  rw [Bool.eq_iff_iff]
  simp
theorem dec_str {i j : Str} : decide (V.str i = V.str j) = (i == j) := by
  rw [Bool.eq_iff_iff]
  simp
theorem dec_byt {i j : Array UInt8} : decide (V.byt i = V.byt j) = (i.toList == j.toList) := by
  rw [Bool.eq_iff_iff]
  cases i
  cases j
  simp

section
variable {X : Cx} {a b c : Expr} {ta tb tc : TE} {pos : Pos}
theorem fin_bl {pins : List (Addr × Obj)} {σ : St} {H : Hp} {s : Shared} {Q : VK} {k k' : Bool} (I : Inv X pins σ H s) (q : Q (.bl k) H) (e : k = k') : EP X pins σ Q (.bool k') s := by
  subst e
  exact ⟨.bl k, H, I, rfl, q⟩
theorem op_eq : OpR X (compareOp .Eq) rEq := by
  intro pins s σ H x y v u Q I rx ry h
  obtain ⟨hs, q⟩ := h
  cases x with
  | non =>
    cases rx
    cases y with
    | non => cases ry; exact PySem.EqNone.eq_none_none (fin_bl I q (by simp))
    | bl j => cases ry; exact PySem.EqNone.eq_none_bool (fin_bl I q (by simp))
    | int j => obtain ⟨t', rfl⟩ := ry; exact PySem.EqNone.eq_none_int (fin_bl I q (by simp))
    | str j => obtain ⟨t', rfl⟩ := ry; exact PySem.EqNone.eq_none_str (fin_bl I q (by simp))
    | _ => exact absurd (show false = true from hs) Bool.false_ne_true
  | bl i =>
    cases rx
    cases y with
    | non => cases ry; exact PySem.EqNone.eq_bool_none (fin_bl I q (by simp))
    | bl j => cases ry; exact eq_bool (fin_bl I q dec_bl)
    | str j => obtain ⟨t', rfl⟩ := ry; exact PySem.EqMixed.eq_bool_str (fin_bl I q (by simp))
    | _ => exact absurd (show false = true from hs) Bool.false_ne_true
  | int i =>
    obtain ⟨t, rfl⟩ := rx
    cases y with
    | non => cases ry; exact PySem.EqNone.eq_int_none (fin_bl I q (by simp))
    | int j => obtain ⟨t', rfl⟩ := ry; exact eq_int (fin_bl I q dec_int)
    | str j => obtain ⟨t', rfl⟩ := ry; exact PySem.EqMixed.eq_int_str (fin_bl I q (by simp))
    | _ => exact absurd (show false = true from hs) Bool.false_ne_true
  | str i =>
    obtain ⟨t, rfl⟩ := rx
    cases y with
    | non => cases ry; exact PySem.EqNone.eq_str_none (fin_bl I q (by simp))
    | bl j => cases ry; exact PySem.EqMixed.eq_str_bool (fin_bl I q (by simp))
    | int j => obtain ⟨t', rfl⟩ := ry; exact PySem.EqMixed.eq_str_int (fin_bl I q (by simp))
    | str j => obtain ⟨t', rfl⟩ := ry; exact eq_str (fin_bl I q dec_str)
    | _ => exact absurd (show false = true from hs) Bool.false_ne_true
  | byt i =>
    obtain ⟨t, rfl⟩ := rx
    cases y with
    | byt j => obtain ⟨t', rfl⟩ := ry; exact PySem.W.eq_bytes (fin_bl I q dec_byt)
    | _ => exact absurd (show false = true from hs) Bool.false_ne_true
  | _ => cases y <;> exact absurd (show false = true from hs) Bool.false_ne_true
theorem op_ne : OpR X (compareOp .NotEq) rNe := by
  intro pins s σ H x y v u Q I rx ry h
  obtain ⟨hs, q⟩ := h
  cases x with
  | non =>
    cases rx
    cases y with
    | non => cases ry; exact PySem.EqNone.ne_none_none (fin_bl I q (by simp))
    | bl j => cases ry; exact PySem.EqNone.ne_none_bool (fin_bl I q (by simp))
    | int j => obtain ⟨t', rfl⟩ := ry; exact PySem.EqNone.ne_none_int (fin_bl I q (by simp))
    | str j => obtain ⟨t', rfl⟩ := ry; exact PySem.EqNone.ne_none_str (fin_bl I q (by simp))
    | _ => exact absurd (show false = true from hs) Bool.false_ne_true
  | bl i =>
    cases rx
    cases y with
    | non => cases ry; exact PySem.EqNone.ne_bool_none (fin_bl I q (by simp))
    | bl j => cases ry; exact ne_bool (fin_bl I q (congrArg not dec_bl))
    | str j => obtain ⟨t', rfl⟩ := ry; exact PySem.EqMixed.ne_bool_str (fin_bl I q (by simp))
    | _ => exact absurd (show false = true from hs) Bool.false_ne_true
  | int i =>
    obtain ⟨t, rfl⟩ := rx
    cases y with
    | non => cases ry; exact PySem.EqNone.ne_int_none (fin_bl I q (by simp))
    | int j => obtain ⟨t', rfl⟩ := ry; exact ne_int (fin_bl I q (congrArg not dec_int))
    | str j => obtain ⟨t', rfl⟩ := ry; exact PySem.EqMixed.ne_int_str (fin_bl I q (by simp))
    | _ => exact absurd (show false = true from hs) Bool.false_ne_true
  | str i =>
    obtain ⟨t, rfl⟩ := rx
    cases y with
    | non => cases ry; exact PySem.EqNone.ne_str_none (fin_bl I q (by simp))
    | bl j => cases ry; exact PySem.EqMixed.ne_str_bool (fin_bl I q (by simp))
    | int j => obtain ⟨t', rfl⟩ := ry; exact PySem.EqMixed.ne_str_int (fin_bl I q (by simp))
    | str j => obtain ⟨t', rfl⟩ := ry; exact ne_str (fin_bl I q (congrArg not dec_str))
    | _ => exact absurd (show false = true from hs) Bool.false_ne_true
  | byt i =>
    obtain ⟨t, rfl⟩ := rx
    cases y with
    | byt j => obtain ⟨t', rfl⟩ := ry; exact PySem.W.ne_bytes (fin_bl I q (congrArg not dec_byt))
    | _ => exact absurd (show false = true from hs) Bool.false_ne_true
  | _ => cases y <;> exact absurd (show false = true from hs) Bool.false_ne_true

theorem op_lt : OpR X (compareOp .Lt) (rI0 fun i j => .bl (decide (i < j))) := opB0 fun _ _ _ _ _ _ _ q => lt_int q
theorem op_le : OpR X (compareOp .LtE) (rI0 fun i j => .bl (decide (i ≤ j))) := opB0 fun _ _ _ _ _ _ _ q => le_int q
theorem op_gt : OpR X (compareOp .Gt) (rI0 fun i j => .bl (decide (j < i))) := opB0 fun _ _ _ _ _ _ _ q => gt_int q
theorem nomark (b : Expr) {op : CmpOp} (h : op ≠ .In := by decide) (h2 : op ≠ .NotIn := by decide) : behindInMarks op b = false := by
  have e1 : (op == CmpOp.In) = false := by cases op <;> first | rfl | exact absurd rfl h
  have e2 : (op == CmpOp.NotIn) = false := by cases op <;> first | rfl | exact absurd rfl h2
  cases b <;> simp [behindInMarks, e1, e2]
/-- a comparison as a value; hm: nomark b, or (for in, not in) by with_unfolding_all rfl -/
theorem pe_cmpR {op : CmpOp} {r : R2} (ho : OpR X (compareOp op) r) (ha : PE X a ta) (hb : PE X b tb) (hm : behindInMarks op b = false) : PE X (.Compare a [op] [b] pos) (tOp r ta tb) := by
  intro pins s σ H Q I h
  exact wpAny_Compare1 (binT ha hb I h fun v u s2 x y H2 I2 rx ry q => ho pins s2 σ H2 x y v u Q I2 rx ry q) hm
/-- a reading of a value as a test -/
def tTest (t : TE) : TT := fun σ H Q => t σ H fun x H' => ∃ k, x = .bl k ∧ Q k H'
theorem pt_cmpR {op : CmpOp} {r : R2} (ho : OpR X (compareOp op) r) (ha : PE X a ta) (hb : PE X b tb) (hm : behindInMarks op b = false) : PT X (.Compare a [op] [b] pos) (tTest (tOp r ta tb)) := by
  intro pins s σ H Q I h
  refine wpAny_isTrue_Compare1 (thn (ha pins s σ H _ I h) fun v s1 ⟨x, H1, I1, r1, q1⟩ => thn (hb pins s1 σ H1 _ I1 q1) fun u s2 ⟨y, H2, I2, r2, q2⟩ =>
    thn (ho pins s2 σ H2 x y v u _ I2 r1 r2 q2) fun c s3 ⟨z, H3, I3, r3, k, e, q3⟩ => ?_) hm
  subst e
  cases r3
  exact wpAny_truthy_bool ⟨H3, I3, q3⟩
/-- a op1 b op2 c -/
def tChain (r r' : R2) (ta tb tc : TE) : TE := fun σ H Q => ta σ H fun x H1 => tb σ H1 fun y H2 => r x y H2 fun z H3 => ∃ k, z = .bl k ∧
  (if k = true then tc σ H3 fun w' H4 => r' y w' H4 Q else Q (.bl false) H3)
theorem pt_chain {op op' : CmpOp} {r r' : R2} (ho : OpR X (compareOp op) r) (ho' : OpR X (compareOp op') r') (ha : PE X a ta) (hb : PE X b tb) (hc : PE X c tc)
    (hm : lastMarks [op, op'] [b, c] = false := by with_unfolding_all rfl) : PT X (.Compare a [op, op'] [b, c] pos) (tTest (tChain r r' ta tb tc)) := by
  intro pins s σ H Q I h
  refine isTrue_chain (thn (ha pins s σ H _ I h) fun v s1 ⟨x, H1, I1, r1, q1⟩ => test_link (thn (hb pins s1 σ H1 _ I1 q1) fun u s2 ⟨y, H2, I2, r2, q2⟩ =>
    thn (ho pins s2 σ H2 x y v u _ I2 r1 r2 q2) fun d s3 ⟨z, H3, I3, r3, k, e, q3⟩ => ?_)) hm
  subst e
  cases r3
  refine wpAny_truthy_bool ?_
  cases k with
  | false =>
    obtain ⟨k', e', q'⟩ := q3
    cases e'
    exact ite_ff ⟨H3, I3, q'⟩
  | true =>
    refine ite_tt (test_last (thn (hc pins s3 σ H3 _ I3 q3) fun w' s4 ⟨z', H4, I4, r4, q4⟩ => thn (ho' pins s4 σ H4 y z' u w' _ I4 r2 r4 q4) fun d' s5 ⟨z2, H5, I5, r5, k2, e2, q5⟩ => ?_))
    subst e2
    cases r5
    exact wpAny_truthy_bool ⟨H5, I5, q5⟩

/-! ### truth -/
theorem line63 : (sizeLine : Nat) < 2 ^ 63 := by rw [sizeLine_eq]; decide
/-! ### strs and bytes -/
/-! ### scalar builtins, by CallR -/
theorem vals1 {x : V} {us : List Value} (r : Vals [x] us) : ∃ u, us = [u] ∧ RelV x u := by
  cases r with
  | cons r1 r2 => cases r2; exact ⟨_, rfl, r1⟩
theorem vals2 {x y : V} {us : List Value} (r : Vals [x, y] us) : ∃ u w', us = [u, w'] ∧ RelV x u ∧ RelV y w' := by
  cases r with
  | cons r1 r2 =>
    cases r2 with
    | cons r3 r4 => cases r4; exact ⟨_, _, rfl, r1, r3⟩
theorem call_abs : CallR X (.builtin "abs") (fun xs H Q => ∃ i, xs = [.int i] ∧ Q (.int (if i < 0 then -i else i)) H) := by
  intro pins s σ H xs us Q I r h
  obtain ⟨i, rfl, q⟩ := h
  obtain ⟨u, rfl, t, rfl⟩ := vals1 r
  exact call_abs_int fun u tk => ⟨.int (if i < 0 then -i else i), H, I.tok _, ⟨_, rfl⟩, q⟩
end
end L2

namespace L2
open PySem PySem.Spec PyProof.Rows

/-! ### an instance, its attributes a map -/
structure ObjM (h : Heap) (x dx C : Addr) (mA : Str → Option Value) : Prop where
  obj : h.get? x = some (PySem.W.instObj C dx)
  ns : h.Ns1 dx mA
  ne : dx ≠ x

theorem lookIn_ns {h : Heap} {dx : Addr} {mA : Str → Option Value} (n : h.Ns1 dx mA) : ∃ od, h.get? dx = some od ∧ ∀ name, PySem.W.lookIn name od = some (mA name) := by
  obtain ⟨o, es, ep, ho, hd, hk, _, hm⟩ := n
  refine ⟨o, ho, fun name => ?_⟩
  have e := hm name
  unfold nsFind findBy at e
  rw [← Array.find?_toList] at e
  unfold PySem.W.lookIn
  rw [hd]
  dsimp only
  split
  · rename_i y q
    rw [q] at e
    exact congrArg some e
  · rename_i q
    rw [q] at e
    have a : es.toList.any (·.refKey) = false := by
      rw [List.any_eq_false]
      intro y hy
      obtain ⟨z, t, hkey⟩ := hk y (Array.mem_toList_iff.mp hy)
      simp [DictEntry.refKey, hkey]
    have a' : ¬ es.toList.any (·.refKey) = true := by rw [a]; exact Bool.false_ne_true
    rw [if_neg a']
    exact congrArg some e

theorem ObjM.look {h : Heap} {x dx C : Addr} {mA : Str → Option Value} (I : ObjM h x dx C mA) : ∃ od, PySem.W.InstAt h x (PySem.W.instObj C dx) C (some od) ∧ ∀ name, PySem.W.lookIn name od = some (mA name) :=
  let ⟨od, ho, hl⟩ := lookIn_ns I.ns
  ⟨od, ⟨I.obj, rfl, rfl, ho⟩, hl⟩

section
variable {prog : Program} {w : World} {A : Around} {E : Value → Shared → Prop} {s : Shared} {K : PySem.W.Frag} {x dx C f : Addr} {mA : Str → Option Value} {name : Str} {v : Value}

end

/-! ### the attributes as a list of pairs -/
theorem RelO.some_of {v : V} {o : Option Value} (r : RelO (some v) o) : ∃ u, o = some u ∧ RelV v u := by
  cases o with
  | none => exact (show False from r).elim
  | some u => exact ⟨u, rfl, r⟩
section
variable {P : Program} {w : World} {H H' : Hp} {h h' : Heap} {a C dx : Addr} {fs fs' : List (Str × V)}
theorem ins_get (hok : HOk P w H h) (e : H a = some (.ins C dx fs)) : ∃ mA, ObjM h a dx C mA ∧ (∀ f, RelO (fs.lookup f) (mA f)) ∧ PySem.Within mA (fs.map (·.1)) ∧ fs.length ≤ 1000 ∧ H dx = some (.own a) := by
  obtain ⟨d, z, ne, ob, mA, n, r, q⟩ := (show ObjOk P w H h a (.ins C dx fs) from hok a _ e)
  exact ⟨mA, ⟨ob, n, ne⟩, r, q, z, d⟩
end

/-! ### what of the text a class must have -/
structure Cls (K : PySem.W.Frag) (C : Addr) : Prop where
  pg : PySem.W.plainGet K C Str.empty = true
  hd : PySem.W.hasDictIn K C = true
  po : PySem.W.plainOver K C = true
  sa : PySem.W.findIn K (.ref C) "__setattr__" = some (some (.builtin "object.__setattr__"))
theorem Cls.get {K : PySem.W.Frag} {C : Addr} (c : Cls K C) (f : Str) : PySem.W.plainGet K C f = true := c.pg
section
variable {X : Cx} {pins : List (Addr × Obj)} {σ : St} {H : Hp} {s : Shared} {a C dx : Addr} {fs : List (Str × V)} {f : Str} {v : V} {A : Around} {E : Value → Shared → Prop}

end

/-! ### readings and rules -/
section
variable {X : Cx} {o e value : Expr} {f : Str} {pos pos' tpos : Pos} {ta tv : TE}
end

/-! ### isinstance -/
section
variable {X : Cx} {pins : List (Addr × Obj)} {σ : St} {H : Hp} {s : Shared} {A : Around} {E : Value → Shared → Prop} {Q : Value → Shared → Prop} {c : Value} {b : Bool}
/-- the type of a value, as the fragment's deciders take it; for an instance its class -/
inductive TyOf (K : PySem.W.Frag) (H : Hp) : V → Value → Prop where
  | non : TyOf K H .non (.type "NoneType")
  | bl (x : Bool) : TyOf K H (.bl x) (.type "bool")
  | int (i : Int) : TyOf K H (.int i) (.type "int")
  | str (x : Str) : TyOf K H (.str x) (.type "str")
  | flt (x : UInt64) : TyOf K H (.flt x) (.type "float")
  | lst {a : Addr} {xs : List V} (e : H a = some (.lst xs)) : TyOf K H (.ref a) (.type "list")
  | frz {a : Addr} {o : Obj} {xs : List V} (e : H a = some (.frz o (.lst xs))) : TyOf K H (.ref a) (.type "list")
  | tup {a : Addr} {xs : List V} (e : H a = some (.tup xs)) : TyOf K H (.ref a) (.type "tuple")
  | dK {a : Addr} {kvs : List (Key × V)} (e : H a = some (.dK kvs)) : TyOf K H (.ref a) (.type "dict")
  | dT {a : Addr} {kvs : List (List Key × V)} (e : H a = some (.dT kvs)) : TyOf K H (.ref a) (.type "dict")
  | ins {a C dx : Addr} {fs : List (Str × V)} (e : H a = some (.ins C dx fs)) (cl : Cls K C) (ha : PySem.W.findIn K (.ref C) "__class__" = some (some (.builtin "object.__class__")))
      (hn : PySem.W.specialIn K (.builtin "object.__class__") "__get__" = some (some (.builtin "getset_descriptor.__get__"))) (htk : PySem.W.takesIn K (.builtin "object.__class__") = some true)
      (hm : PySem.W.mroIn K C (.type "object") = some true) : TyOf K H (.ref a) (.ref C)
/-- isinstance(x, c) for one class c, a built-in or an own one: kitOne's answer -/
theorem isinst_ok {x : V} {u t : Value} (I : Inv X pins σ H s) (rx : RelV x u) (ty : TyOf X.K H x t) (e : PySem.W.kitOne X.K t c = some b) (h : ∀ tk, Q (.bool b) { s with toks := tk }) :
    wpAny (model X.prog X.w) A (call (.builtin "isinstance") [u, c]) Q E s := by
  cases ty with
  | non => cases (show u = Value.none from rx); exact PySem.W.kia_one PySem.W.kitx_none I.kIn True.intro e (fun z => nomatch z) h
  | bl y => cases (show u = Value.bool y from rx); exact PySem.W.kia_one PySem.W.kitx_bool I.kIn True.intro e (fun z => nomatch z) h
  | int i => obtain ⟨t, q⟩ := (show ∃ t, u = Value.int i t from rx); cases q; exact PySem.W.kia_one PySem.W.kitx_int I.kIn True.intro e (fun z => nomatch z) h
  | str y => obtain ⟨t, q⟩ := (show ∃ t, u = Value.str y t from rx); cases q; exact PySem.W.kia_one PySem.W.kitx_str I.kIn True.intro e (fun z => nomatch z) h
  | flt y => obtain ⟨t, q⟩ := (show ∃ t, u = Value.float y t from rx); cases q; exact PySem.W.kia_one PySem.W.kitx_float I.kIn True.intro e (fun z => nomatch z) h
  | @lst a xs ea =>
    cases (show u = Value.ref a from rx)
    obtain ⟨_, _, n, _, h1⟩ := (show ObjOk X.prog X.w H s.heap a (.lst xs) from I.hok a _ ea)
    exact PySem.W.kia_one PySem.W.kitx_list I.kIn ⟨_, h1, rfl⟩ e (fun z => nomatch z) h
  | @frz a ob xs ea =>
    cases (show u = Value.ref a from rx)
    obtain ⟨_, _, _, n, _, h1⟩ := (show ObjOk X.prog X.w H s.heap a (.frz ob (.lst xs)) from I.hok a _ ea)
    exact PySem.W.kia_one PySem.W.kitx_list I.kIn ⟨_, h1, rfl⟩ e (fun z => nomatch z) h
  | @tup a xs ea =>
    cases (show u = Value.ref a from rx)
    obtain ⟨_, _, _, p⟩ := (show ObjOk X.prog X.w H s.heap a (.tup xs) from I.hok a _ ea)
    obtain ⟨o, h1, h2, _⟩ := p
    exact PySem.W.kia_one PySem.W.kitx_tuple I.kIn ⟨o, h1, h2⟩ e (fun z => nomatch z) h
  | @dK a kvs ea =>
    cases (show u = Value.ref a from rx)
    obtain ⟨_, _, vs, _, p⟩ := (show ObjOk X.prog X.w H s.heap a (.dK kvs) from I.hok a _ ea)
    obtain ⟨o, es, ep, h1, h2, _⟩ := p
    exact PySem.W.kia_one PySem.W.kitx_dict I.kIn ⟨o, h1, h2.1⟩ e (fun z => nomatch z) h
  | @dT a kvs ea =>
    cases (show u = Value.ref a from rx)
    obtain ⟨_, _, xs, _, o, es, ep, h1, h2, _⟩ := (show ObjOk X.prog X.w H s.heap a (.dT kvs) from I.hok a _ ea)
    exact PySem.W.kia_one PySem.W.kitx_dict I.kIn ⟨o, h1, h2.1⟩ e (fun z => nomatch z) h
  | @ins a C dx fs ea cl ha hn htk hm =>
    cases (show u = Value.ref a from rx)
    obtain ⟨mA, O, _⟩ := ins_get I.hok ea
    obtain ⟨od, J, _⟩ := O.look
    exact PySem.W.kia_one (PySem.W.kitx_own (cl.get _) cl.hd ha hn htk hm) I.kIn J e (fun z => nomatch z) h
end
end L2

namespace L2
open PySem PySem.Spec PyProof.Rows

/-! ### room -/
structure Room (k : Nat) (A : Around) : Prop where
  hd : A.handled = none
  dp : A.depth + 3 * k + 5 < recursionLimit
  un : A.units + 16 * k + 200 < cLine
theorem Room.mono {j k : Nat} {A : Around} (r : Room k A) (h : j ≤ k) : Room j A := ⟨r.hd, by have := r.dp; omega, by have := r.un; omega⟩
theorem Room.deeper {k : Nat} {A : Around} (r : Room (k + 1) A) (env : Env) : Room k (A.deeper env) :=
  ⟨r.hd, by have := r.dp; show A.depth + 1 + 3 * k + 5 < _; omega, by have := r.un; show A.units + 3 + 16 * k + 200 < _; omega⟩
theorem Room.depth {k : Nat} {A : Around} (r : Room k A) : A.depth < recursionLimit := by have := r.dp; omega
theorem Room.units {k : Nat} {A : Around} (r : Room k A) : A.units + 64 < cLine := by have := r.un; omega
/-! ### argument lists and displays -/
def tNil : TA := fun _ H Q => Q [] H
def tCons (ta : TE) (tr : TA) : TA := fun σ H Q => ta σ H fun x H1 => tr σ H1 fun xs H2 => Q (x :: xs) H2
section
variable {X : Cx} {e : Expr} {es : List Expr} {te : TE} {t : TA} {pos : Pos}
theorem pa_nil : PA X [] tNil := fun _ _ _ _ H Q I h => Calls.spliced_nil ⟨[], H, I, .nil, h⟩
theorem pa_cons (ha : PE X e te) (hr : PA X es t) (hs : starEach (e :: es) X.env = (false, eval e X.env) :: starEach es X.env := by rfl) : PA X (e :: es) (tCons te t) := by
  intro pos pins s σ H Q I h
  rw [hs]
  show wpAny _ _ (spliced ((false, eval e X.env) :: backTo pos (starEach es X.env))) _ _ s
  refine Calls.spliced_cons (thn (ha pins s σ H _ I h) fun u s1 ⟨x, H1, I1, r1, q1⟩ => ?_)
  exact thn (hr pos pins s1 σ H1 _ I1 q1) fun us s2 ⟨xs, H2, I2, r2, q2⟩ => ⟨x :: xs, H2, I2, .cons r1 r2, q2⟩

def tLst (t : TA) : TE := fun σ H Q => t σ H fun xs H1 => xs.length ≤ sizeLine ∧ ∀ p, H1 p = none → Q (.ref p) (upd H1 p (.lst xs))
theorem pe_lst (h : PA X es t) : PE X (.List es pos) (tLst t) := by
  intro pins s σ H Q I hq
  refine wpAny_List_spliced (thn (h pos pins s σ H _ I hq) fun us s1 ⟨xs, H1, I1, r, z, q⟩ => ⟨by rw [← r.length]; exact z, ?_⟩)
  have hf : H1 s1.heap.objs.size = none := I1.hok.fresh (Nat.le_refl _)
  refine ⟨.ref s1.heap.objs.size, upd H1 s1.heap.objs.size (.lst xs), I1.laid (t' := s1.toks) (fun b u e => Heap.get?_push_of_some _ e) (Nat.le_refl _) ?_, rfl, q _ hf⟩
  exact ⟨z, us, 0, r, Heap.get?_push_size _ rfl⟩
end

/-! ### what a def promises -/
/-- a def's promise: the bound arguments in the parameters' order, the heap, the wanted end, the wanted exception -/
abbrev Sp := List V → Hp → VK → XK → Prop
/-- how an exception lies behind a call (file 08 gives it): the callers' frames, abstract heap and state ahead of the call, the wish, the exception, the state -/
abbrev CXT := List Env → Hp → Shared → XK → Value → Shared → Prop

/-- the state at a call -/
structure Env0 (P : Program) (w : World) (K : PySem.W.Frag) (mg : Str → Option Value) (base : Heap) (A : Around) (outer : List Env) (s : Shared) (H : Hp) : Prop where
  frames : A.frames = some outer
  mod : Mod K mg base
  bs : ∀ b o, base.get? b = some o → s.heap.get? b = some o ∧ H b = none
  bsz : base.objs.size ≤ s.heap.objs.size
  funs : s.heap.FunFrames base outer
  frf : ∀ b ∈ frs outer, H b = none
  hok : HOk P w H s.heap
  bare : AllBare s.gens
/-- a call's end -/
def CE (outer : List Env) (P : Program) (w : World) (H : Hp) (s : Shared) (Q : VK) (u : Value) (s' : Shared) : Prop :=
  ∃ v H', s'.os = s.os ∧ AllBare s'.gens ∧ Un (frs outer) [] H H' s.heap s'.heap ∧ HOk P w H' s'.heap ∧ RelV v u ∧ Q v H'
def CR (CX : CXT) (outer : List Env) (P : Program) (w : World) (H : Hp) (s : Shared) (Q : VK) (E : XK) (r : Result) (s' : Shared) : Prop :=
  match r with
  | .ok (.ret u) => CE outer P w H s Q u s'
  | .ok _ => False
  | .error e => CX outer H s E e s'
structure FnOk (P : Program) (w : World) (K : PySem.W.Frag) (mg : Str → Option Value) (base : Heap) (CX : CXT) (k : Nat) (f : Addr) (fd : FuncData) (ps : List Str) (sp : Sp) : Prop where
  len : ∀ vs H Q E, sp vs H Q E → vs.length = ps.length
  run : ∀ (A : Around) (outer : List Env) (s : Shared) (H : Hp) (args : Args) (us : List Value) (vs : List V) (Q : VK) (E : XK), Room k A → Env0 P w K mg base A outer s H → BindsTo s fd args (ps.zip us) → Vals vs us → sp vs H Q E →
    codeAny (model P w) A (.call (.ref f) args) (CR CX outer P w H s Q E) s
section
variable {X : Cx} {pins : List (Addr × Obj)} {σ : St} {H : Hp} {s s' : Shared}
/-- from a body: what a callee wants -/
theorem Inv.env0 (I : Inv X pins σ H s) : Env0 X.prog X.w X.K X.mg X.base X.A X.stack s H :=
  ⟨I.ok.frames, I.ok.mod, I.bs, Nat.le_trans I.ok.bsz I.sz, I.stack, I.stkFree, I.hok, I.bare⟩
/-- behind a call -/
theorem Inv.after {Q : VK} {u : Value} (I : Inv X pins σ H s) (h : CE X.stack X.prog X.w H s Q u s') : EP X pins σ Q u s' := by
  obtain ⟨v, H', os, bare, un, hok, r, q⟩ := h
  obtain ⟨hh, g, d, t, os'⟩ := s'
  obtain rfl : os' = s.os := os
  exact ⟨v, H', I.call (h' := hh) (g' := g) (d' := d) (t' := t) (ch := []) un hok bare (fun b z => absurd z (by simp)), r, q⟩
end

/-! ### calls -/
/-- f(..): the written arguments, then the defaults dvs; E: what is wanted of an exception -/
def tCall (sp : Sp) (dvs : List V) (E : XK) (t : TA) : TE := fun σ H Q => t σ H fun vs H1 => sp (vs ++ dvs) H1 Q E
/-- how the parameters are bound: us the positional arguments, kw the keywords' values by name, ds the defaults that fill up -/
def Binds (K : PySem.W.Frag) (fd : FuncData) (ps : List Str) (ds : List Value) : Prop :=
  ∀ (s : Shared) (us : List Value), K.In s.heap → (us ++ ds).length = ps.length → BindsTo s fd ⟨us, []⟩ (ps.zip (us ++ ds))
/-- every parameter is given -/
theorem Binds.all {K : PySem.W.Frag} {fd : FuncData} {ps : List Str} (h : ∀ us : List Value, us.length = ps.length → bindArgs fd ⟨us, []⟩ = pure (ps.zip us)) : Binds K fd ps [] := fun s us _ hl => by
  rw [List.append_nil] at hl ⊢
  exact .of_eq (h us hl)

/-- an exception of a callee reaches what this body wants of exceptions -/
def Passes (CX : CXT) (X : Cx) (E : XK) : Prop := ∀ (pins : List (Addr × Obj)) (σ : St) (H : Hp) (s : Shared) (e : Value) (s' : Shared), Inv X pins σ H s → CX X.stack H s E e s' → X.xe e s'

section
variable {X : Cx} {CX : CXT} {k : Nat} {f C : Addr} {fd : FuncData} {ps : List Str} {sp : Sp} {dvs : List V} {ds : List Value} {E : XK} {x m : Str} {p pos apos : Pos} {e o : Expr} {es : List Expr} {ta : TE} {t : TA}

/-- the callee runs -/
theorem run_fn {pins : List (Addr × Obj)} {σ : St} {H : Hp} {s : Shared} {Q : VK} {us : List Value} {vs : List V} (F : FnOk X.prog X.w X.K X.mg X.base CX k f fd ps sp) (hr : Room k X.A) (hb : Binds X.K fd ps ds) (hd : Vals dvs ds) (hx : Passes CX X E)
    (I : Inv X pins σ H s) (r : Vals vs us) (h : sp (vs ++ dvs) H Q E) : wpAny (model X.prog X.w) X.A (call (.ref f) us) (EP X pins σ Q) X.xe s := by
  have r2 : Vals (vs ++ dvs) (us ++ ds) := r.append hd
  have hl : (us ++ ds).length = ps.length := by rw [← r2.length]; exact F.len _ _ _ _ h
  refine wpAny_call (codeAny_mono (F.run X.A X.stack s H ⟨us, []⟩ (us ++ ds) (vs ++ dvs) Q E hr I.env0 (hb s us I.kIn hl) r2 h) fun r s' hq => ?_)
  cases r with
  | error e => exact hx pins σ H s e s' I hq
  | ok fl =>
    cases fl with
    | ret u => exact I.after hq
    | next => exact False.elim hq
    | brk => exact False.elim hq
    | cont => exact False.elim hq

theorem pe_call (F : FnOk X.prog X.w X.K X.mg X.base CX k f fd ps sp) (hr : Room k X.A) (hg : Gl X x) (hm : X.mg x = some (.ref f)) (hk : PySem.W.keepIn X.K (.ref f) = true) (hb : Binds X.K fd ps ds) (hd : Vals dvs ds) (hx : Passes CX X E)
    (ha : PA X (e :: es) t) (hdb : (x == ("__debug__" : Str)) = false := by decide) (he : starEach (e :: es) X.env = (false, eval e X.env) :: starEach es X.env := by rfl) (hpl : (backTo pos (starEach es X.env)).any (·.1) = false := by rfl) :
    PE X (.Call (.Name x p) (e :: es) [] pos) (tCall sp dvs E t) := by
  intro pins s σ H Q I h
  refine wpAny_Call_Name_kw (ld_glob I hg hm ?_ hdb)
  refine PySem.W.callWith_K (h₀ := X.base) I.ok.mod.kin hk (thn (ha pos pins s σ H _ I h) fun us s1 ⟨vs, H1, I1, r, q⟩ => ⟨I1.kIn, ?_⟩) he hpl
  exact run_fn F hr hb hd hx I1 r q
end

/-! ### keywords -/
/-- the values of the keywords, from the left -/
def PK (X : Cx) (kws : List Keyword) (t : TA) : Prop :=
  ∀ (pos : Pos) (pins : List (Addr × Obj)) (s : Shared) (σ : St) (H : Hp) (Q : List V → Hp → Prop), Inv X pins σ H s → t σ H Q → wpAny (model X.prog X.w) X.A (evalAll ((backToKw pos (keywordEach kws X.env)).map (·.2))) (AP X pins σ Q) X.xe s
section
variable {X : Cx} {CX : CXT} {k : Nat} {f C : Addr} {fd : FuncData} {ps ks : List Str} {sp : Sp} {E : XK} {x m : Str} {p pos apos kpos : Pos} {e o : Expr} {es : List Expr} {kws : List Keyword} {te ta : TE} {t tk : TA} {nm : Option Str}
theorem pk_nil : PK X [] tNil := fun _ _ _ _ H Q I h => wpAny_evalAll_nil ⟨[], H, I, .nil, h⟩
theorem pk_cons (ha : PE X e te) (hr : PK X kws t) : PK X (⟨nm, e, kpos⟩ :: kws) (tCons te t) := by
  intro pos pins s σ H Q I h
  show wpAny _ _ (evalAll ((do let v ← eval e X.env; standAt pos; pure v) :: (backToKw pos (keywordEach kws X.env)).map (·.2))) _ _ s
  refine wpAny_evalAll_cons (wpAny_bind (thn (ha pins s σ H _ I h) fun u s1 ⟨x, H1, I1, r1, q1⟩ => wpAny_bind (wpAny_standAt (wpAny_pure ?_))))
  exact thn (hr pos pins s1 σ H1 _ I1 q1) fun us s2 ⟨xs, H2, I2, r2, q2⟩ => ⟨x :: xs, H2, I2, .cons r1 r2, q2⟩

variable {g : List Value → List Value → List Value} {gV : List V → List V → List V}
end

/-! ### a def's body keeps its promise -/
/-- names: the parameters first -/
structure FnScope (N P : List Str) (sc : Scope) : Prop where
  kind : sc.kind = .function
  co : sc.isCoroutine = false
  gen : sc.isGenerator = false
  nd : N.Nodup
  pre : N.take P.length = P
  par : ∀ x ∈ P, sc.names.lookup x = some .local ∨ sc.names.lookup x = some .cell
  nofree : ∀ y ∈ sc.names, y.2 ≠ .free

theorem bindL_out {kindOf : Str → Option NameKind} {x : Str} : ∀ {binds : List (Str × Value)} {m : Str → Option Value}, (∀ v, (x, v) ∉ binds) → bindL kindOf binds m x = m x
  | [], _, _ => rfl
  | (n, v) :: r, m, h => by
    unfold bindL
    rw [bindL_out fun w hw => h w (List.mem_cons_of_mem _ hw)]
    split
    · have : x ≠ n := by rintro rfl; exact h v List.mem_cons_self
      simp [this]
    · rfl
theorem bindC_out {kindOf : Str → Option NameKind} {x : Str} : ∀ {binds : List (Str × Value)} {m : Str → Option Value}, (∀ v, (x, v) ∉ binds) → bindC kindOf binds m x = m x
  | [], _, _ => rfl
  | (n, v) :: r, m, h => by
    unfold bindC
    rw [bindC_out fun w hw => h w (List.mem_cons_of_mem _ hw)]
    split
    · rfl
    · have : x ≠ n := by rintro rfl; exact h v List.mem_cons_self
      simp [this]
theorem bindL_get {kindOf : Str → Option NameKind} {x : Str} {v : Value} : ∀ {P : List Str} {vs : List Value} {i : Nat} {m : Str → Option Value}, P.Nodup → P[i]? = some x → vs[i]? = some v → kindOf x = some .local →
    bindL kindOf (P.zip vs) m x = some v
  | [], _, _, _, _, h, _, _ => by simp at h
  | _ :: _, [], _, _, _, _, h, _ => by simp at h
  | p :: P, w :: vs, 0, m, nd, h1, h2, hk => by
    simp at h1 h2; subst h1; subst h2
    show bindL kindOf ((p, w) :: P.zip vs) m p = _
    unfold bindL
    rw [bindL_out fun v hv => (List.nodup_cons.mp nd).1 (List.of_mem_zip hv).1, if_pos hk]
    simp
  | p :: P, w :: vs, i + 1, m, nd, h1, h2, hk => by
    show bindL kindOf ((p, w) :: P.zip vs) m x = _
    unfold bindL
    exact bindL_get (i := i) (List.nodup_cons.mp nd).2 (by simpa using h1) (by simpa using h2) hk
theorem bindC_get {kindOf : Str → Option NameKind} {x : Str} {v : Value} : ∀ {P : List Str} {vs : List Value} {i : Nat} {m : Str → Option Value}, P.Nodup → P[i]? = some x → vs[i]? = some v → kindOf x ≠ some .local →
    bindC kindOf (P.zip vs) m x = some v
  | [], _, _, _, _, h, _, _ => by simp at h
  | _ :: _, [], _, _, _, _, h, _ => by simp at h
  | p :: P, w :: vs, 0, m, nd, h1, h2, hk => by
    simp at h1 h2; subst h1; subst h2
    show bindC kindOf ((p, w) :: P.zip vs) m p = _
    unfold bindC
    rw [bindC_out fun v hv => (List.nodup_cons.mp nd).1 (List.of_mem_zip hv).1, if_neg hk]
    simp
  | p :: P, w :: vs, i + 1, m, nd, h1, h2, hk => by
    show bindC kindOf ((p, w) :: P.zip vs) m x = _
    unfold bindC
    exact bindC_get (i := i) (List.nodup_cons.mp nd).2 (by simpa using h1) (by simpa using h2) hk

/-- the names' values at the entry -/
def start (N : List Str) (vs : List V) : St := vs.map some ++ List.replicate (N.length - vs.length) none

/-- the context of a def's body, at its entry; an exception leaves the frame, then lies as CX says -/
def cxOf (CX : CXT) (P : Program) (w : World) (K : PySem.W.Frag) (mg : Str → Option Value) (base : Heap) (N : List Str) (qual : Str) (scope : Scope) (f : Addr) (cd : Value) (A : Around) (outer : List Env) (s : Shared) (H : Hp) (E : XK) : Cx where
  prog := P
  w := w
  K := K
  mg := mg
  base := base
  A := A.deeper (envOfC qual scope s.heap.objs.size f cd)
  N := N
  s₀ := s
  H₀ := H
  env := envOfC qual scope s.heap.objs.size f cd
  outer := outer
  stack := envOfC qual scope s.heap.objs.size f cd :: outer
  ex := []
  calm := true
  fn := fun _ => true
  pn := []
  xe := fun e s' => wpAny (model P w) (A.deeper (envOfC qual scope s.heap.objs.size f cd)) (leaving (envOfC qual scope s.heap.objs.size f cd) e) (fun _ s'' => CX outer H s E e s'') (fun e' s'' => CX outer H s E e' s'') s'

theorem cell_has {sc : Scope} {n : Nat} {x : Str} (h : sc.names.lookup x = some .cell) : ∃ c, (cellsFrom n sc.names []).lookup x = some c := by
  have q := PySem.W.cellsFrom_some sc.names n [] (.inl h)
  exact Option.isSome_iff_exists.mp q

theorem inv_start {CX : CXT} {P : Program} {w : World} {K : PySem.W.Frag} {mg : Str → Option Value} {base : Heap} {N ps : List Str} {qual : Str} {scope : Scope} {f : Addr} {cd : Value} {A : Around} {outer : List Env} {s s1 : Shared} {H : Hp} {E : XK} {us : List Value} {vs : List V}
    (S : FnScope N ps scope) (hd : A.handled = none) (e0 : Env0 P w K mg base A outer s H) (hl : vs.length = ps.length) (r : Vals vs us)
    (x : InCallC s s.heap.objs.size (bindL (envOfC qual scope s.heap.objs.size f cd).kindOf (ps.zip us) fun _ => none) (cellsFrom (s.heap.objs.size + 1) scope.names []) (bindC (envOfC qual scope s.heap.objs.size f cd).kindOf (ps.zip us) fun _ => none) s1) :
    Inv (cxOf CX P w K mg base N qual scope f cd A outer s H E) [] (start N vs) H s1 := by
  have hpl : ps.length ≤ N.length := by have := congrArg List.length S.pre; rw [List.length_take] at this; omega
  obtain ⟨h1, tk, rfl, hk⟩ := x.done
  have noA : ∀ b : Addr, b ∉ (cxOf CX P w K mg base N qual scope f cd A outer s H E).ex := fun b z => absurd (show b ∈ ([] : List Addr) from z) (by simp)
  refine ⟨⟨e0.mod, S.kind, rfl, rfl, Nat.le_refl _, fun y z c h1 h2 => ?_, fun y hy => ?_, fun y c _ h => ?_, fun _ => hd, Around.frames_deeper e0.frames, .inr ⟨rfl, rfl⟩, fun b z => absurd z (noA b), e0.bs, e0.bsz, fun b _ _ => noA b, fun b z => absurd z (noA b), e0.funs, e0.frf⟩,
    rfl, e0.bare, Un.kept hk, ⟨_, x.toInCall.ns, fun i y v h1 h2 h3 => ?_⟩, fun y c h => ⟨_, x.cell y c h⟩, e0.hok.fresh (Nat.le_refl _), fun y c h => ?_, fun p hp => absurd (show p ∈ ([] : List (Addr × Obj)) from hp) (by simp), e0.hok.kept hk, ?_⟩
  · exact name_of_addr x.apart (PySem.mem_of_lookup h1) (PySem.mem_of_lookup h2)
  · have hy : scope.names.lookup y = some .cell ∨ scope.names.lookup y = some .free := hy
    rcases hy with hy | hy
    · exact cell_has hy
    · exact absurd rfl (S.nofree _ (PySem.mem_of_lookup hy))
  · exact Nat.le_of_lt (x.above y c (PySem.mem_of_lookup h))
  · have hi : i < vs.length := by
      unfold start at h2
      by_cases hi : i < vs.length
      · exact hi
      · rw [List.getElem?_append_right (by simpa using hi)] at h2
        rw [List.getElem?_replicate] at h2
        split at h2 <;> cases h2
    have ha : vs[i]? = some v := by
      unfold start at h2
      rw [List.getElem?_append_left (by simpa using hi), List.getElem?_map] at h2
      cases e : vs[i]? with
      | none => rw [e] at h2; cases h2
      | some a => rw [e] at h2; cases h2; rfl
    obtain ⟨u, hu, rv⟩ := r.get ha
    have hp : ps[i]? = some y := by
      rw [← S.pre, List.getElem?_take_of_lt (by omega)]; exact h1
    have ndP : ps.Nodup := by rw [← S.pre]; exact S.nd.sublist (List.take_sublist _ _)
    refine ⟨u, rv, ?_⟩
    rcases S.par y (List.mem_of_getElem? hp) with k | k
    · exact .inl ⟨k, bindL_get ndP hp hu k⟩
    · obtain ⟨c, e⟩ := cell_has (n := s.heap.objs.size + 1) k
      refine .inr ⟨.inl k, c, e, ?_⟩
      have q := x.cell y c e
      rw [bindC_get ndP hp hu (by show scope.names.lookup y ≠ _; rw [k]; decide)] at q
      exact q
  · exact e0.hok.fresh (Nat.le_of_lt (x.above y c (PySem.mem_of_lookup h)))
  · unfold start
    show _ = N.length
    rw [List.length_append, List.length_map, List.length_replicate]
    omega

/-- THE RULE: a def (or a method) of the text, by its body. The body's reading t is chosen for each entry; it is run at the parameters' values -/
theorem fn_of {CX : CXT} {P : Program} {w : World} {K : PySem.W.Frag} {mg : Str → Option Value} {base : Heap} {k : Nat} {f : Addr} {name qual : Str} {params : Arguments} {body : List Stmt} {scope : Scope} {dV kV doc pm cdv ct oc : Value} {an od : Option Addr}
    {osl : Array (Option Value)} {N ps : List Str} {sp : Sp} (lk : K.lookup f = some ⟨oc, od, .func (PySem.W.fnOf name qual params body scope dV kV doc pm an cdv ct), osl⟩) (hcd : PySem.W.codeIn K cdv qual = true) (S : FnScope N ps scope)
    (len : ∀ vs H Q E, sp vs H Q E → vs.length = ps.length)
    (hbody : ∀ (A : Around) (outer : List Env) (s : Shared) (H : Hp) (vs : List V) (Q : VK) (E : XK), Room k (A.deeper (envOfC qual scope s.heap.objs.size f cdv)) → sp vs H Q E →
      ∃ t, PSs (cxOf CX P w K mg base N qual scope f cdv A outer s H E) body t ∧ t { nx := fun _ H' => Q .non H', rt := Q } (start N vs) H) :
    FnOk P w K mg base CX (k + 1) f (PySem.W.fnOf name qual params body scope dV kV doc pm an cdv ct) ps sp := by
  refine ⟨len, fun A outer s H args us vs Q E hr e0 hb r hsp => ?_⟩
  have hl := len _ _ _ _ hsp
  have KX : K.In s.heap := e0.mod.kin.keeps fun b o e => (e0.bs b o e).1
  have lim : s.heap.NoLimit := e0.mod.nolimit.keeps fun b o e => (e0.bs b o e).1
  have hkind : ∀ y ∈ ps.zip us, scope.names.lookup y.1 = some .local ∨ (scope.names.lookup y.1 = some .cell ∧ ((cellsFrom (s.heap.objs.size + 1) scope.names []).lookup y.1).isSome = true) := fun ⟨n, v⟩ hy => by
    rcases S.par n (List.of_mem_zip hy).1 with q | q
    · exact .inl q
    · exact .inr ⟨q, PySem.W.cellsFrom_some _ _ _ (.inl q)⟩
  refine codeAny_call_function hr.depth (KX _ _ lk) rfl S.co S.gen rfl (PySem.W.codeRec_of KX hcd) (hb _ _ _ _ ?_)
  refine wpAny_newFunctionEnv_cells S.kind hkind fun env he s1 x => ?_
  subst he
  refine ⟨lim.keeps x.toInCall.keep, codeAny_func ?_⟩
  obtain ⟨t, ht, hq⟩ := hbody A outer s H vs Q E (hr.deeper _) hsp
  have I : Inv (cxOf CX P w K mg base N qual scope f cdv A outer s H E) [] (start N vs) H s1 := inv_start S hr.hd e0 hl r x
  refine wpAny_mono (ht [] s1 (start N vs) H _ I hq) (fun fl s' hs => ?_) fun e s' hs => hs
  have fin : ∀ {σ' : St} {H' : Hp} {v : V} {u : Value}, Inv (cxOf CX P w K mg base N qual scope f cdv A outer s H E) [] σ' H' s' → RelV v u → Q v H' → CE outer P w H s Q u s' :=
    fun {σ' H' v u} J rv q => ⟨v, H', J.os, J.bare, J.base, J.hok, rv, q⟩
  cases fl with
  | ret u =>
    obtain ⟨v, σ', H', J, rv, q⟩ := hs
    exact fin J rv q
  | next =>
    obtain ⟨σ', H', J, q⟩ := hs
    exact fin (v := V.non) (u := Value.none) J rfl q
  | brk =>
    obtain ⟨_, _, _, q⟩ := hs
    exact False.elim q
  | cont =>
    obtain ⟨_, _, _, q⟩ := hs
    exact False.elim q
end L2

namespace L2
open PySem PySem.Spec PyProof.Rows
section
variable {X : Cx} {x : Str} {p pos : Pos} {e : Expr} {es : List Expr} {t : TA} {id T : String} {r : List V → Hp → VK → Prop}

def tCB (r : List V → Hp → VK → Prop) (t : TA) : TE := fun σ H Q => t σ H fun vs H1 => r vs H1 Q
/-- f(e, ..), f a built-in function -/
theorem pe_callB (hc : CallR X (.builtin id) r) (hg : Gl X x) (hm : X.mg x = none) (hv : bootBuiltins x = some (.builtin id)) (ha : PA X (e :: es) t) (hn : x ≠ "__name__" := by decide) (hdb : (x == ("__debug__" : Str)) = false := by decide)
    (he : starEach (e :: es) X.env = (false, eval e X.env) :: starEach es X.env := by rfl) (hpl : (backTo pos (starEach es X.env)).any (·.1) = false := by rfl) : PE X (.Call (.Name x p) (e :: es) [] pos) (tCB r t) := by
  intro pins s σ H Q I h
  refine wpAny_Call_Name_kw (ld_blt I hg hm hv ?_ hn hdb)
  exact PyProof.Rows.callWith_builtin1 (thn (ha pos pins s σ H _ I h) fun us s1 ⟨vs, H1, I1, r1, q1⟩ => hc pins s1 σ H1 vs us Q I1 r1 q1) he hpl
/-- T(e, ..), T a built-in type -/
theorem pe_callTy (hc : CallR X (.type T) r) (hg : Gl X x) (hm : X.mg x = none) (hv : bootBuiltins x = some (.type T)) (ha : PA X (e :: es) t) (hn : x ≠ "__name__" := by decide) (hdb : (x == ("__debug__" : Str)) = false := by decide)
    (he : starEach (e :: es) X.env = (false, eval e X.env) :: starEach es X.env := by rfl) (hpl : (backTo pos (starEach es X.env)).any (·.1) = false := by rfl) : PE X (.Call (.Name x p) (e :: es) [] pos) (tCB r t) := by
  intro pins s σ H Q I h
  refine wpAny_Call_Name_kw (ld_blt I hg hm hv ?_ hn hdb)
  exact PyProof.Rows.callWith_type1 (thn (ha pos pins s σ H _ I h) fun us s1 ⟨vs, H1, I1, r1, q1⟩ => hc pins s1 σ H1 vs us Q I1 r1 q1) he hpl
end
end L2

namespace HT
open PySem PyProof.Rows

section
open PySem.SeqAt
open PySem.AutoSeq1 (wpAny_loadPart')
open PySem.MeetsSeq PySem.MeetsSeq2 PySem.MeetsSeq3

end

section
variable {prog : Program} {w : World} {A : Around} {E : Value → Shared → Prop} {s : Shared}

/-- t + u, t not empty -/
theorem cat_tup {t b : Addr} {vs ws : List Value} {Q : Value → Shared → Prop} (ht : IsTup s.heap t vs.toArray) (hb : IsTup s.heap b ws.toArray) (hv : vs ≠ [])
    (h1 : ws = [] → Q (.ref t) s) (h2 : ws ≠ [] → Q (.ref s.heap.objs.size) { s with heap := s.heap.push { cls := .type "tuple", data := .seq (vs ++ ws).toArray } })
    (hsz : vs.length + ws.length ≤ sizeLine) : wpAny (model prog w) A (binaryOp .Add (.ref t) (.ref b)) Q E s := by
  obtain ⟨⟨cls, dd, data, sl⟩, ho, hc, n, hd⟩ := id ht
  obtain ⟨⟨cls2, dd2, data2, sl2⟩, ho2, hc2, n2, hd2⟩ := id hb
  simp only at hc hd hc2 hd2
  subst hc hd hc2 hd2
  have e : vs.toArray ++ ws.toArray = (vs ++ ws).toArray := by simp
  by_cases hw : ws = []
  · exact concat_meets ⟨_, ho, rfl⟩ ⟨_, ho2, rfl⟩ noFill_tuple_add seq_tuple_add PySem.F.slot_tuple_add PySem.F.entry_tuple_add (PySem.F.args_tuple_add_2 _ _)
      (tuple_addW1 t b vs.toArray ws.toArray n n2 dd dd2 sl sl2 (by simpa using hv) (by simp [hw])) ⟨ho, ho2, h1 hw⟩
  · refine concat_meets ⟨_, ho, rfl⟩ ⟨_, ho2, rfl⟩ noFill_tuple_add seq_tuple_add PySem.F.slot_tuple_add PySem.F.entry_tuple_add (PySem.F.args_tuple_add_2 _ _)
      (tuple_addW2 t b vs.toArray ws.toArray n n2 dd dd2 sl sl2 (by simpa using hv) (by simpa using hw) (by rw [List.size_toArray, List.size_toArray]; exact hsz)) ⟨ho, ho2, ?_⟩
    rw [e]
    exact h2 hw

/-! ### t[a:b], not the whole -/
/-- a slice's bound as a place among n (d where it is left out) -/
def sIx (n d : Nat) : Option Int → Nat
  | none => d
  | some v => if v < 0 then (v + (n : Int)).toNat else min v.toNat n
theorem sIx_none (n d : Nat) : sIx n d none = d := rfl
theorem sIx_nat (n d k : Nat) : sIx n d (some (k : Int)) = min k n := by
  show (if (k : Int) < 0 then ((k : Int) + (n : Int)).toNat else min (k : Int).toNat n) = min k n
  rw [if_neg (by omega), Int.toNat_natCast]
theorem sIx_le (n d : Nat) (hd : d ≤ n) (o : Option Int) : sIx n d o ≤ n := by
  cases o with
  | none => exact hd
  | some v =>
    show (if v < 0 then (v + (n : Int)).toNat else min v.toNat n) ≤ n
    by_cases hv : v < 0
    · rw [if_pos hv]; omega
    · rw [if_neg hv]; exact Nat.min_le_right _ _
theorem clip_eq (v : Int) (n d : Nat) : (if v < 0 then max (v + (n : Int)) 0 else min v (n : Int)) = ((sIx n d (some v) : Nat) : Int) := by
  show (if v < 0 then max (v + (n : Int)) 0 else min v (n : Int)) = (((if v < 0 then (v + (n : Int)).toNat else min v.toNat n) : Nat) : Int)
  by_cases hv : v < 0
  · simp only [if_pos hv]; omega
  · simp only [if_neg hv]; omega
theorem adjust_gen (lo hi : Option Int) (n : Nat) : Builtin.Slice.sliceAdjust lo hi 1 (n : Int) = (((sIx n 0 lo : Nat) : Int), ((sIx n n hi : Nat) : Int)) := by
  have h1 : ¬ ((1 : Int) < 0) := by omega
  unfold Builtin.Slice.sliceAdjust
  simp only [h1, if_false]
  refine Prod.ext ?_ ?_
  · cases lo with
    | none => rfl
    | some v => exact clip_eq v n 0
  · cases hi with
    | none => rfl
    | some v => exact clip_eq v n n
theorem places_gen (i j : Nat) : Builtin.Slice.slicePlaces (i : Int) (j : Int) 1 = j - i := by
  unfold Builtin.Slice.slicePlaces
  have h1 : (1 : Int) > 0 := by omega
  simp only [h1, if_true, Int.ediv_one]
  split <;> omega
theorem slicePart_ {v : Value} {o : Option Int} {Q : Option Int → Shared → Prop} (p : IsPart v o) (h : Q o s) : wpAny (model prog w) A (Builtin.Slice.slicePartIndex v) Q E s := by
  cases p with
  | none => exact slicePart_none h
  | int i t => exact slicePart_int h
theorem sliceApplied_gen {sl : Addr} {vl vu : Value} {lo hi : Option Int} {n : Nat} {Q : Int × Int × Nat → Shared → Prop} (hs : s.heap.IsSliceOf sl vl vu .none) (pl : IsPart vl lo) (pu : IsPart vu hi)
    (h : Q (((sIx n 0 lo : Nat) : Int), 1, sIx n n hi - sIx n 0 lo) s) : wpAny (model prog w) A (Builtin.Slice.sliceApplied (.ref sl) (pure (n : Int))) Q E s := by
  obtain ⟨os, hos, hcs, hds⟩ := id hs
  unfold Builtin.Slice.sliceApplied Builtin.Slice.sliceFields
  refine wpAny_bind (wpAny_bind (wpAny_field hos hds (x := vl) rfl (wpAny_bind (wpAny_field hos hds (x := vu) rfl (wpAny_bind (wpAny_field hos hds (x := .none) rfl (wpAny_pure ?_)))))))
  refine wpAny_bind (slicePart_none ?_)
  show wpAny _ _ (if ((1 : Int) == 0) = true then _ else _) _ _ s
  rw [if_neg (by decide)]
  refine wpAny_bind (slicePart_ pl (wpAny_bind (slicePart_ pu (wpAny_bind (wpAny_pure ?_)))))
  show wpAny _ _ (match Builtin.Slice.sliceAdjust lo hi 1 (n : Int) with | (lo, hi) => pure (lo, (1 : Int), Builtin.Slice.slicePlaces lo hi 1)) _ _ s
  rw [adjust_gen lo hi n]
  show wpAny _ _ (pure (((sIx n 0 lo : Nat) : Int), (1 : Int), Builtin.Slice.slicePlaces ((sIx n 0 lo : Nat) : Int) ((sIx n n hi : Nat) : Int) 1)) _ _ s
  rw [places_gen]
  exact wpAny_pure h
theorem pick_gen (xs : Array Value) (i k : Nat) : ((List.range k).filterMap fun (m : Nat) => xs[((i : Int) + (m : Int) * 1).toNat]?).toArray = ((xs.toList.drop i).take k).toArray := by
  have e : (fun (m : Nat) => xs[((i : Int) + (m : Int) * 1).toNat]?) = fun m => xs[i + m]? := by
    funext m
    have : ((i : Int) + (m : Int) * 1).toNat = i + m := by omega
    rw [this]
  rw [e]
  have := pick_run xs i k
  rw [List.filterMap_map] at this
  have e2 : ((fun x => xs[x]?) ∘ fun x => i + x) = fun m => xs[i + m]? := rfl
  rw [e2] at this
  rw [this]

theorem getItem_tuple_cut {t sl : Addr} {items : Array Value} {vl vu : Value} {lo hi : Option Int} {Q : Value → Shared → Prop} (ht : IsTup s.heap t items) (hs : s.heap.IsSliceOf sl vl vu .none) (pl : IsPart vl lo) (pu : IsPart vu hi)
    (hw : ¬ (sIx items.size 0 lo = 0 ∧ sIx items.size items.size hi = items.size))
    (h : Q (.ref s.heap.objs.size) { s with heap := s.heap.push { cls := .type "tuple", data := .seq ((items.toList.drop (sIx items.size 0 lo)).take (sIx items.size items.size hi - sIx items.size 0 lo)).toArray } })
    (hsz : items.size ≤ sizeLine) : wpAny (model prog w) A (getItem (.ref t) (.ref sl)) Q E s := by
  have htake : sizeOk (.seq ((items.toList.drop (sIx items.size 0 lo)).take (sIx items.size items.size hi - sIx items.size 0 lo)).toArray) := by
    show ((items.toList.drop (sIx items.size 0 lo)).take (sIx items.size items.size hi - sIx items.size 0 lo)).toArray.size ≤ sizeLine
    rw [List.size_toArray, List.length_take, List.length_drop, Array.length_toList]
    omega
  have hj : sIx items.size items.size hi ≤ items.size := sIx_le _ _ (Nat.le_refl _) hi
  obtain ⟨os, hos, hcs, hds⟩ := id hs
  have hTs : s.TypeIs (.ref sl) "slice" := ⟨os, hos, hcs⟩
  unfold getItem
  try with_reducible refine wpAny_holding ?_
  first | refine wpAny_bind (wpAny_pure ?_) | skip
  refine wpAny_bind (wpAny_sequenceKey ht.typeIs (by decide) ?_)
  refine wpAny_bind (wpAny_callSpecial?_slot (name := Str.ofString "__getitem__") ht.typeIs PyProof.Rows.slot_tuple_getitem
    (wpAny_call_entry PyProof.Rows.slot_tuple_getitem ht.typeIs entry_tuple_getitem ?_ (args_tuple_getitem _ _)))
  show wpAny _ _ (Builtin.Tuple.tupleItemsOf (.ref t) >>= _) _ _ s
  refine wpAny_bind (tupleItemsOf_ ht ?_)
  refine wpAny_bind (wpAny_typeOf hTs ?_)
  rw [if_pos (by decide)]
  refine wpAny_bind (sliceApplied_gen hs pl pu ?_)
  have hno : ¬ ((((sIx items.size 0 lo : Nat) : Int) == 0 && (1 : Int) == 1 && (sIx items.size items.size hi - sIx items.size 0 lo) == items.size) = true) := by
    intro q
    rw [Bool.and_eq_true, Bool.and_eq_true] at q
    have q1 : ((sIx items.size 0 lo : Nat) : Int) = 0 := eq_of_beq q.1.1
    have q2 : sIx items.size items.size hi - sIx items.size 0 lo = items.size := eq_of_beq q.2
    exact hw ⟨by omega, by omega⟩
  show wpAny _ _ (if (((sIx items.size 0 lo : Nat) : Int) == 0 && (1 : Int) == 1 && (sIx items.size items.size hi - sIx items.size 0 lo) == items.size) = true then _ else _) _ _ s
  rw [if_neg hno, pick_gen]
  first
    | exact wpAny_bind (m := Builtin.Tuple.tupleExact _) (wpAny_newObj_type (wpAny_pure ⟨_, rfl, wpAny_pure h⟩) htake)
    | exact wpAny_bind (m := Builtin.Tuple.tupleExact _) (wpAny_newObj_type (wpAny_bind (wpAny_pure (wpAny_pure ⟨_, rfl, wpAny_pure h⟩))) htake)
    | exact wpAny_bind (wpAny_bind (m := Builtin.Tuple.tupleExact _) (wpAny_newObj_type (wpAny_pure (wpAny_pure ⟨_, rfl, wpAny_pure h⟩)) htake))
    | exact wpAny_bind (wpAny_bind (m := Builtin.Tuple.tupleExact _) (wpAny_newObj_type (wpAny_pure ⟨_, rfl, wpAny_pure h⟩) htake))
end
end HT

namespace L2
open PySem PySem.Spec PyProof.Rows

/-! ### the parts of a slice -/
abbrev TO := St → Hp → (Option Int → Hp → Prop) → Prop
/-- a slice's part (left out, or an int) -/
def PO (X : Cx) (e : Option Expr) (t : TO) : Prop :=
  ∀ (pins : List (Addr × Obj)) (s : Shared) (σ : St) (H : Hp) (Q : Option Int → Hp → Prop), Inv X pins σ H s → t σ H Q →
    wpAny (model X.prog X.w) X.A (evalPart e X.env) (fun u s' => ∃ o H', Inv X pins σ H' s' ∧ IsPart u o ∧ Q o H') X.xe s
def tNoPart : TO := fun _ H Q => Q none H
def tPart (t : TE) : TO := fun σ H Q => t σ H fun x H1 => ∃ i, x = .int i ∧ Q (some i) H1

theorem intsAre_of {ns : List Int} : ∀ {us : List Value}, Vals (ns.map V.int) us → IntsAre us ns := by
  induction ns with
  | nil => intro us r; rw [List.map_nil] at r; cases r; exact .nil
  | cons n ns ih =>
    intro us r
    rw [List.map_cons] at r
    cases r with
    | cons r1 r2 =>
      obtain ⟨t, e⟩ := r1
      subst e
      exact .cons n t (ih r2)

section
variable {X : Cx} {e : Expr} {te : TE} {lo hi : Option Expr} {tl th : TO} {pos p2 : Pos}

theorem po_none : PO X none tNoPart := by
  intro pins s σ H Q I h
  rw [evalPart_none]
  exact wpAny_pure ⟨none, H, I, .none, h⟩
theorem po_some (h : PE X e te) : PO X (some e) (tPart te) := by
  intro pins s σ H Q I hw
  rw [evalPart_some]
  refine thn (h pins s σ H _ I hw) fun u s1 ⟨x, H1, I1, r1, q1⟩ => ?_
  obtain ⟨i, rfl, q⟩ := q1
  obtain ⟨t, rfl⟩ := r1
  exact ⟨some i, H1, I1, .int i t, q⟩

/-- what a slice of a value is, by values: the slice object stands at sl -/
def SlR (X : Cx) (r : V → Option Int → Option Int → Hp → VK → Prop) : Prop :=
  ∀ (pins : List (Addr × Obj)) (s : Shared) (σ : St) (H : Hp) (x : V) (v vl vu : Value) (lo hi : Option Int) (sl : Addr) (Q : VK), Inv X pins σ H s → RelV x v → s.heap.IsSliceOf sl vl vu .none → IsPart vl lo → IsPart vu hi → r x lo hi H Q →
    ∃ T id, typeLookup (.type T) "__getitem__" = pure (some (.builtin id)) ∧ s.TypeIs v T ∧ wpAny (model X.prog X.w) X.A (getItem v (.ref sl)) (EP X pins σ Q) X.xe s
def tSl (r : V → Option Int → Option Int → Hp → VK → Prop) (te : TE) (tl th : TO) : TE := fun σ H Q => te σ H fun x H1 => tl σ H1 fun l H2 => th σ H2 fun u H3 => r x l u H3 Q
/-- a[lo:hi], any a -/
theorem pe_slice {r : V → Option Int → Option Int → Hp → VK → Prop} (hr : SlR X r) (he : PE X e te) (hl : PO X lo tl) (hu : PO X hi th) : PE X (.Subscript e (.Slice lo hi none p2) pos) (tSl r te tl th) := by
  intro pins s σ H Q I h
  refine Subscript_ (thn (he pins s σ H _ I h) fun v s1 ⟨x, H1, I1, r1, q1⟩ => ?_)
  refine wpAny_Slice (thn (hl pins s1 σ H1 _ I1 q1) fun vl s2 ⟨l, H2, I2, pl, q2⟩ => thn (hu pins s2 σ H2 _ I2 q2) fun vu s3 ⟨u, H3, I3, pu, q3⟩ => ?_)
  rw [evalPart_none]
  refine wpAny_pure ?_
  have I4 : Inv X pins σ H3 { s3 with heap := s3.heap.push { cls := .type "slice", data := .fields #[vl, vu, .none] } } := I3.kept (t' := s3.toks) fun b ob q => Heap.get?_push_of_some _ q
  obtain ⟨T, id, hT, ht, hg⟩ := hr pins { s3 with heap := s3.heap.push { cls := .type "slice", data := .fields #[vl, vu, .none] } } σ H3 x v vl vu l u s3.heap.objs.size Q I4 r1 (Heap.IsSliceOf.new ..) pl pu q3
  show wpAny (model X.prog X.w) X.A (subscriptTail e (.Slice lo hi none p2) v (.ref s3.heap.objs.size)) (EP X pins σ Q) X.xe { s3 with heap := s3.heap.push { cls := .type "slice", data := .fields #[vl, vu, .none] } }
  exact tail_any (ops := [.ref s3.heap.objs.size, v]) ht hT hg (by with_unfolding_all rfl)

/-- the items of xs[lo:hi] -/
def cutV (xs : List V) (lo hi : Option Int) : List V := (xs.drop (HT.sIx xs.length 0 lo)).take (HT.sIx xs.length xs.length hi - HT.sIx xs.length 0 lo)
theorem cutV_length (xs : List V) (lo hi : Option Int) : (cutV xs lo hi).length ≤ xs.length := by
  unfold cutV
  rw [List.length_take, List.length_drop]
  omega
/-- t[lo:hi], not the whole of it (the whole would be t itself) -/
def rSlT (K : PySem.W.Frag) : V → Option Int → Option Int → Hp → VK → Prop := fun x lo hi H Q => ∃ a xs, x = .ref a ∧ SqT K H a xs ∧
  ¬ (HT.sIx xs.length 0 lo = 0 ∧ HT.sIx xs.length xs.length hi = xs.length) ∧ ∀ p, H p = none → Q (.ref p) (upd H p (.tup (cutV xs lo hi)))
theorem sl_tup : SlR X (rSlT X.K) := by
  intro pins s σ H x v vl vu lo hi sl Q I rx hs pl pu h
  obtain ⟨a, xs, rfl, hx, hw, q⟩ := h
  cases rx
  obtain ⟨its, r, ht, hz⟩ := I.tuple hx
  have hlen : its.toArray.size = xs.length := by rw [List.size_toArray]; exact r.length.symm
  refine ⟨"tuple", _, PyProof.Rows.slot_tuple_getitem.lookup, ht.typeIs, ?_⟩
  refine HT.getItem_tuple_cut ht hs pl pu (by rw [hlen]; exact hw) ?_ (by rw [hlen]; exact hz)
  rw [hlen]
  refine ⟨.ref s.heap.objs.size, _, I.laid (t' := s.toks) (o := .tup (cutV xs lo hi)) (fun b ob q => Heap.get?_push_of_some _ q) (Nat.le_refl _) ?_, rfl, q _ (I.hok.fresh (Nat.le_refl _))⟩
  exact ⟨Nat.le_trans (cutV_length xs lo hi) hz, _, (r.drop (HT.sIx xs.length 0 lo)).take (HT.sIx xs.length xs.length hi - HT.sIx xs.length 0 lo), IsTup.new _ _⟩

/-! ### t < u, t + u -/
/-- t + u, t not empty: u empty gives t itself -/
def rCatT (K : PySem.W.Frag) : R2 := fun x y H Q => ∃ a b xs ys, x = .ref a ∧ y = .ref b ∧ SqT K H a xs ∧ SqT K H b ys ∧ xs ≠ [] ∧ xs.length + ys.length ≤ sizeLine ∧
  (ys = [] → Q (.ref a) H) ∧ (ys ≠ [] → ∀ p, H p = none → Q (.ref p) (upd H p (.tup (xs ++ ys))))
theorem Vals.nil_iff {xs : List V} {us : List Value} (r : Vals xs us) : us = [] ↔ xs = [] := by
  cases r with
  | nil => simp
  | cons _ _ => simp
theorem op_catT : OpR X (binaryOp .Add) (rCatT X.K) := by
  intro pins s σ H x y v u Q I rx ry h
  obtain ⟨a, b, xs, ys, rfl, rfl, ha, hb, hx, hz, q1, q2⟩ := h
  cases rx
  cases ry
  obtain ⟨its, r1, p1, _⟩ := I.tuple ha
  obtain ⟨its2, r2, p2, _⟩ := I.tuple hb
  refine HT.cat_tup p1 p2 (fun z => hx (r1.nil_iff.mp z)) (fun z => ⟨.ref a, H, I, rfl, q1 (r2.nil_iff.mp z)⟩) (fun z => ?_) (by rw [← r1.length, ← r2.length]; exact hz)
  refine ⟨.ref s.heap.objs.size, _, I.laid (t' := s.toks) (o := .tup (xs ++ ys)) (fun b ob q => Heap.get?_push_of_some _ q) (Nat.le_refl _) ?_, rfl, q2 (fun w => z (r2.nil_iff.mpr w)) _ (I.hok.fresh (Nat.le_refl _))⟩
  exact ⟨by rw [List.length_append]; exact hz, _, r1.append r2, IsTup.new _ _⟩
end
end L2

namespace L2
open PySem PySem.Spec PyProof.Rows

/-! ### places -/
/-- the place that an index of any sign means -/
def ixN (n : Nat) (i : Int) : Option Nat := if 0 ≤ i then (if i < n then some i.toNat else none) else if -(n : Int) ≤ i then some (i + n).toNat else none
def atI {α : Type} (xs : List α) (i : Int) : Option α := (ixN xs.length i).bind fun j => xs[j]?
theorem ixN_seq {n : Nat} {i : Int} {j : Nat} (h : ixN n i = some j) : seqIndex? i n = some j ∧ j < n ∧ -(n : Int) ≤ i ∧ i < n := by
  unfold ixN at h
  by_cases h0 : 0 ≤ i
  · rw [if_pos h0] at h
    by_cases h1 : i < n
    · rw [if_pos h1] at h
      have e : i.toNat = j := Option.some.inj h
      exact ⟨by rw [seqIndex_of h0 h1, e], by omega, by omega, h1⟩
    · rw [if_neg h1] at h; cases h
  · rw [if_neg h0] at h
    by_cases h1 : -(n : Int) ≤ i
    · rw [if_pos h1] at h
      have e : (i + n).toNat = j := Option.some.inj h
      exact ⟨by rw [seqIndex_neg (by omega) h1, e], by omega, h1, by omega⟩
    · rw [if_neg h1] at h; cases h
theorem atI_get {α : Type} {xs : List α} {i : Int} {v : α} (h : atI xs i = some v) : ∃ j, seqIndex? i xs.length = some j ∧ xs[j]? = some v ∧ j < xs.length ∧ -(xs.length : Int) ≤ i ∧ i < xs.length := by
  unfold atI at h
  cases e : ixN xs.length i with
  | none => rw [e] at h; cases h
  | some j =>
    rw [e] at h
    obtain ⟨h1, h2, h3, h4⟩ := ixN_seq e
    exact ⟨j, h1, h, h2, h3, h4⟩
theorem atI_nat {α : Type} {xs : List α} {j : Nat} {v : α} (h : xs[j]? = some v) : atI xs (j : Int) = some v := by
  have hj : j < xs.length := (List.getElem?_eq_some_iff.mp h).1
  have e : ixN xs.length (j : Int) = some j := by
    unfold ixN
    rw [if_pos (by omega), if_pos (by omega)]; simp
  unfold atI; rw [e]; exact h
/-! ### what may be subscripted -/
/-- what stands as an index of a plain subscript -/
def PlainIx (b : Expr) : Prop := ∀ o i, subscripted b false o i = operate [o, i] (getItem o i)
/-- a subscript by values -/
def IxR (X : Cx) (r : R2) : Prop :=
  ∀ (value slice : Expr) (pins : List (Addr × Obj)) (s : Shared) (σ : St) (H : Hp) (x y : V) (v u : Value) (Q : VK), Inv X pins σ H s → RelV x v → RelV y u → r x y H Q →
    subscripted slice false v u = operate [v, u] (getItem v u) → wpAny (model X.prog X.w) X.A (subscriptTail value slice v u) (EP X pins σ Q) X.xe s
/-- a call of a builtin's method by values: the receiver, the arguments -/
def MtR (X : Cx) (id : String) (r : V → List V → Hp → VK → Prop) : Prop :=
  ∀ (pins : List (Addr × Obj)) (s : Shared) (σ : St) (H : Hp) (x : V) (xs : List V) (v : Value) (us : List Value) (Q : VK), Inv X pins σ H s → RelV x v → Vals xs us → r x xs H Q →
    wpAny (model X.prog X.w) X.A (call (.builtin id) (v :: us)) (EP X pins σ Q) X.xe s
section
variable {X : Cx} {a b : Expr} {ta tb : TE} {pos : Pos}
/-- a[b] -/
theorem pe_ix {r : R2} (hr : IxR X r) (ha : PE X a ta) (hb : PE X b tb) (hs : PlainIx b) : PE X (.Subscript a b pos) (tOp r ta tb) := by
  intro pins s σ H Q I h
  exact Subscript_ (binT ha hb I h fun v u s2 x y H2 I2 rx ry q => hr a b pins s2 σ H2 x y v u Q I2 rx ry q (hs _ _))

def rIxL (K : PySem.W.Frag) : R2 := fun x y H Q => ∃ p xs i v, x = .ref p ∧ y = .int i ∧ SqL K H p xs ∧ atI xs i = some v ∧ Q v H
def rIxT (K : PySem.W.Frag) : R2 := fun x y H Q => ∃ p xs i v, x = .ref p ∧ y = .int i ∧ SqT K H p xs ∧ atI xs i = some v ∧ Q v H
theorem ix_list : IxR X (rIxL X.K) := by
  intro value slice pins s σ H x y v u Q I rx ry h hs
  obtain ⟨p, xs, i, z, rfl, rfl, hq, he, q⟩ := h
  cases rx
  obtain ⟨t, rfl⟩ := ry
  obtain ⟨its, r, pl, hz⟩ := I.list hq
  obtain ⟨j, h1, h2, h3, h4, h5⟩ := atI_get he
  obtain ⟨w, ew, rw'⟩ := r.get h2
  have hl := r.length
  have hn := line63
  have fin : EP X pins σ Q w s := ⟨z, H, I, rw', q⟩
  by_cases h0 : 0 ≤ i
  · have hj : i.toNat = j := by
      rw [seqIndex_of h0 h5] at h1
      exact Option.some.inj h1
    exact item_listR pl.isList h0 (by omega) (by rw [hj]; simpa using ew) fin hs
  · have hj : (i + (its.toArray.size : Int)).toNat = j := by
      rw [seqIndex_neg (by omega) h4] at h1
      rw [List.size_toArray, ← hl]
      exact Option.some.inj h1
    exact subscriptTail_builtinR (x := w) pl.isList.typeIs slot_list_getitem.lookup
      (wpAny_getItem_list_neg (Q := fun r s' => r = w ∧ EP X pins σ Q r s') pl.isList (by omega) (by rw [List.size_toArray] <;> omega) (by omega) (by rw [hj]; simpa using ew) ⟨rfl, fin⟩) hs
theorem ix_tup : IxR X (rIxT X.K) := by
  intro value slice pins s σ H x y v u Q I rx ry h hs
  obtain ⟨p, xs, i, z, rfl, rfl, hq, he, q⟩ := h
  cases rx
  obtain ⟨t, rfl⟩ := ry
  obtain ⟨its, r, pl, hz⟩ := I.tuple hq
  obtain ⟨j, h1, h2, h3, h4, h5⟩ := atI_get he
  obtain ⟨w, ew, rw'⟩ := r.get h2
  have hl := r.length
  have hn := line63
  have fin : EP X pins σ Q w s := ⟨z, H, I, rw', q⟩
  exact subscriptTail_builtinR (x := w) pl.typeIs slot_tuple_getitem.lookup
    (getItem_tuple (j := j) (Q := fun r s' => r = w ∧ EP X pins σ Q r s') pl (by omega) (by omega) (by rw [List.size_toArray, ← hl]; exact h1) (by simpa using ew) ⟨rfl, fin⟩) hs
/-! ### xs[i] = v, any sign -/
/-- the list's object behind a store -/
theorem mapSeq_set (its : List Value) (n j : Nat) (u : Value) : Obj.mapSeq (·.setIfInBounds j u) { cls := .type "list", data := .seq its.toArray n } = { cls := .type "list", data := .seq (its.set j u).toArray n } := by
  simp [Obj.mapSeq]
theorem Inv.lst {pins : List (Addr × Obj)} {σ : St} {H : Hp} {s : Shared} {p : Addr} {xs : List V} (I : Inv X pins σ H s) (h : H p = some (.lst xs)) :
    ∃ (its : List Value) (n : Nat), Vals xs its ∧ s.heap.get? p = some { cls := .type "list", data := .seq its.toArray n } ∧ xs.length ≤ sizeLine := by
  obtain ⟨z, its, n, r, e⟩ := I.hok p _ h
  exact ⟨its, n, r, e, z⟩
/-- the list at p is written by an update of its object -/
theorem Inv.lstUpd {pins : List (Addr × Obj)} {σ : St} {H : Hp} {s : Shared} {p : Addr} {xs ys : List V} {its its' : List Value} {n n' : Nat} {f : Obj → Obj} (I : Inv X pins σ H s) (h : H p = some (.lst xs))
    (ho : s.heap.get? p = some { cls := .type "list", data := .seq its.toArray n }) (hf : f { cls := .type "list", data := .seq its.toArray n } = { cls := .type "list", data := .seq its'.toArray n' }) (r : Vals ys its') (hz : ys.length ≤ sizeLine) (t : Nat) :
    Inv X pins σ (upd H p (.lst ys)) { s with heap := s.heap.update p f, toks := t } := by
  have e : (s.heap.update p f).get? p = some { cls := .type "list", data := .seq its'.toArray n' } := by
    rw [Heap.get?_update_self f ho (by rw [hf] <;> rfl), hf]
  refine I.write (x := p) (e := p) (by rw [h]; trivial) (.inl rfl) (fun b u hb q => (Heap.get?_update_other _ _ (Ne.symm hb)).trans q) ⟨_, e⟩ ?_
  exact ⟨hz, its', n', r, e⟩
def rSetL : V → V → V → Hp → (Hp → Prop) → Prop := fun o i v H Q => ∃ p xs k j, o = .ref p ∧ i = .int k ∧ H p = some (.lst xs) ∧ ixN xs.length k = some j ∧ Q (upd H p (.lst (xs.set j v)))
theorem set_list : PSet X rSetL := by
  intro pins s σ H o i v ov iv u Q I ro ri rv h
  obtain ⟨p, xs, k, j, rfl, rfl, hp, hj, q⟩ := h
  cases ro
  obtain ⟨t, rfl⟩ := ri
  obtain ⟨its, n, r, ho, hz⟩ := I.lst hp
  obtain ⟨h1, h2, h3, h4⟩ := ixN_seq hj
  have hl := r.length
  have hn := line63
  have I' : Inv X pins σ (upd H p (.lst (xs.set j v))) { s with heap := s.heap.update p (Obj.mapSeq (·.setIfInBounds j u)) } :=
    I.lstUpd hp ho (mapSeq_set its n j u) (r.set rv j) (by rw [List.length_set]; exact hz) s.toks
  by_cases h0 : 0 ≤ k
  · have hk : k.toNat = j := by
      rw [seqIndex_of h0 h4] at h1
      exact Option.some.inj h1
    exact PySem.W.ki_setAt ho h0 (by omega) (by rw [List.size_toArray, ← hl]; exact h4) (by rw [hk]; exact ⟨_, I', q⟩)
  · have hk : (k + (its.toArray.size : Int)).toNat = j := by
      rw [seqIndex_neg (by omega) h3] at h1
      rw [List.size_toArray, ← hl]
      exact Option.some.inj h1
    exact PySem.W.ki_setBack ho (by omega) (by rw [List.size_toArray, ← hl]; exact h3) (by omega) (by rw [hk]; exact ⟨_, I', q⟩)

/-! ### slices -/
theorem slice_bounds (lo hi : Option Int) (n : Nat) : (sliceBounds lo hi none n).1 = ((HT.sIx n 0 lo : Nat) : Int) ∧ (sliceBounds lo hi none n).2.1 = ((HT.sIx n n hi : Nat) : Int) ∧ (sliceBounds lo hi none n).2.2 = 1 := by
  refine ⟨?_, ?_, rfl⟩
  · cases lo with
    | none => simp [sliceBounds, HT.sIx]
    | some i =>
      simp only [sliceBounds, HT.sIx, Option.getD_none, show (1 : Int) > 0 by decide, if_true]
      by_cases h : i < 0
      · simp only [h, if_true] <;> omega
      · simp only [h, if_false] <;> omega
  · cases hi with
    | none => simp [sliceBounds, HT.sIx]
    | some i =>
      simp only [sliceBounds, HT.sIx, Option.getD_none, show (1 : Int) > 0 by decide, if_true]
      by_cases h : i < 0
      · simp only [h, if_true] <;> omega
      · simp only [h, if_false] <;> omega
theorem slicePick_cut (its : List Value) (lo hi : Option Int) : slicePick its.toArray lo hi none = ((its.drop (HT.sIx its.length 0 lo)).take (HT.sIx its.length its.length hi - HT.sIx its.length 0 lo)).toArray := by
  obtain ⟨h1, h2, h3⟩ := slice_bounds lo hi its.toArray.size
  unfold slicePick
  rw [h1, h2, h3]
  simp only [sliceRange_one, pick_run, List.size_toArray] <;> rfl
/-- xs[lo:hi] of a list: a new list -/
def rSlL (K : PySem.W.Frag) : V → Option Int → Option Int → Hp → VK → Prop := fun x lo hi H Q => ∃ a xs, x = .ref a ∧ SqL K H a xs ∧ ∀ p, H p = none → Q (.ref p) (upd H p (.lst (cutV xs lo hi)))
theorem sl_list : SlR X (rSlL X.K) := by
  intro pins s σ H x v vl vu lo hi sl Q I rx hs pl pu h
  obtain ⟨a, xs, rfl, hx, q⟩ := h
  cases rx
  obtain ⟨its, r, ht, hz⟩ := I.list hx
  have hlen := r.length
  refine ⟨"list", _, slot_list_getitem.lookup, ht.isList.typeIs, ?_⟩
  refine wpAny_getItem_list_slice ht.isList hs pl pu .none (by simp) ?_ (by rw [List.size_toArray] <;> omega)
  rw [slicePick_cut, ← hlen]
  refine ⟨.ref s.heap.objs.size, _, I.laid (t' := s.toks) (o := .lst (cutV xs lo hi)) (fun b ob q => Heap.get?_push_of_some _ q) (Nat.le_refl _) ?_, rfl, q _ (I.hok.fresh (Nat.le_refl _))⟩
  exact ⟨Nat.le_trans (cutV_length xs lo hi) hz, _, 0, (r.drop (HT.sIx xs.length 0 lo)).take (HT.sIx xs.length xs.length hi - HT.sIx xs.length 0 lo), Heap.get?_push_size _ rfl⟩

/-! ### in, not in: flat items -/
/-! ### len, list(x), tuple(x) of any list or tuple that is read -/
theorem call_len_seq : CallR X (.builtin "len") (fun xs H Q => ∃ p ys, xs = [.ref p] ∧ (SqL X.K H p ys ∨ SqT X.K H p ys) ∧ Q (.int ys.length) H) := by
  intro pins s σ H xs us Q I r h
  obtain ⟨p, ys, rfl, hq, q⟩ := h
  obtain ⟨u, rfl, rx⟩ := vals1 r
  cases rx
  have hn := line63
  rcases hq with hq | hq
  · obtain ⟨its, r', pl, hz⟩ := I.list hq
    have hlen := r'.length
    exact Calls.call_len_list pl.isList (by simp only [List.size_toArray] <;> omega) ⟨.int ys.length, H, I.tok _, ⟨s.toks + 1, by rw [List.size_toArray, hlen]⟩, q⟩
  · obtain ⟨its, r', pl, hz⟩ := I.tuple hq
    have hlen := r'.length
    exact len_tuple pl (by simp only [List.size_toArray] <;> omega) ⟨.int ys.length, H, I.tok _, ⟨s.toks + 1, by rw [List.size_toArray, hlen]⟩, q⟩
theorem call_list_of : CallR X (.type "list") (fun xs H Q => ∃ p ys, xs = [.ref p] ∧ (SqL X.K H p ys ∨ SqT X.K H p ys) ∧ ∀ l, H l = none → Q (.ref l) (upd H l (.lst ys))) := by
  intro pins s σ H xs us Q I r h
  obtain ⟨p, ys, rfl, hq, q⟩ := h
  obtain ⟨u, rfl, rx⟩ := vals1 r
  cases rx
  have fin : ∀ (its : List Value), Vals ys its → ys.length ≤ sizeLine → ∀ (h' : Heap) (c' : Nat), (∀ b o', s.heap.get? b = some o' → h'.get? b = some o') →
      h'.get? s.heap.objs.size = some { cls := .type "list", dict := none, data := .seq its.toArray c', slots := #[] } → EP X pins σ Q (.ref s.heap.objs.size) { s with heap := h' } := fun its r' hz h' c' kp e =>
    ⟨.ref s.heap.objs.size, _, I.laid (t' := s.toks) kp (Nat.le_refl _) (show ObjOk X.prog X.w _ h' _ (.lst ys) from ⟨hz, its, c', r', e⟩), rfl, q _ (I.hok.fresh (Nat.le_refl _))⟩
  rcases hq with hq | hq
  · obtain ⟨its, r', pl, hz⟩ := I.list hq
    have hlen := r'.length
    obtain ⟨o, ho, hc, n, hd⟩ := pl.isList
    exact call_list_seq p (.inl rfl) ho hc hd (fun h' c' kp e => fin its r' hz h' c' kp e) (by simp only [List.size_toArray] <;> omega)
  · obtain ⟨its, r', pl, hz⟩ := I.tuple hq
    have hlen := r'.length
    obtain ⟨o, ho, hc, n, hd⟩ := pl
    exact call_list_seq p (.inr rfl) ho hc hd (fun h' c' kp e => fin its r' hz h' c' kp e) (by simp only [List.size_toArray] <;> omega)
theorem call_tuple_of : CallR X (.type "tuple") (fun xs H Q => ∃ p ys, xs = [.ref p] ∧ ((SqL X.K H p ys ∧ ∀ l, H l = none → Q (.ref l) (upd H l (.tup ys))) ∨ (SqT X.K H p ys ∧ Q (.ref p) H))) := by
  intro pins s σ H xs us Q I r h
  obtain ⟨p, ys, rfl, h⟩ := h
  obtain ⟨u, rfl, rx⟩ := vals1 r
  cases rx
  rcases h with ⟨hq, q⟩ | ⟨hq, q⟩
  · obtain ⟨its, r', pl, hz⟩ := I.list hq
    have hlen := r'.length
    refine call_tuple_list pl.isList (fun h' kp => ?_) (by simp only [List.size_toArray] <;> omega)
    have I1 : Inv X pins σ H { s with heap := h' } := I.kept (t' := s.toks) kp
    have I2 : Inv X pins σ (upd H h'.objs.size (.tup ys)) { s with heap := h'.push { cls := .type "tuple", data := .seq its.toArray } } :=
      I1.laid (t' := s.toks) (fun b o e => Heap.get?_push_of_some _ e) (Nat.le_refl _) (show ObjOk X.prog X.w _ _ _ (.tup ys) from ⟨hz, its, r', IsTup.new _ _⟩)
    exact ⟨.ref h'.objs.size, _, I2, rfl, q _ (I1.hok.fresh (Nat.le_refl _))⟩
  · obtain ⟨its, r', pl, hz⟩ := I.tuple hq
    exact call_tuple_same pl ⟨.ref p, H, I, rfl, q⟩

/-! ### the call of a builtin's method: o.m(..) -/
/-- the value is of that builtin type -/
def tyV (K : PySem.W.Frag) (T : String) (x : V) (H : Hp) : Prop := match x with
  | .str _ => T = "str"
  | .int _ => T = "int"
  | .ref p => (T = "list" ∧ ∃ xs, SqL K H p xs) ∨ (T = "tuple" ∧ ∃ o, K.lookup p = some o ∧ o.cls = .type "tuple" ∧ o.dict = none) ∨
      (T = "dict" ∧ ((∃ kvs, H p = some (.dK kvs)) ∨ ∃ kvs, H p = some (.dT kvs))) ∨ (T = "set" ∧ ∃ S n, H p = some (.set S n))
  | _ => False
theorem tyV_is {pins : List (Addr × Obj)} {σ : St} {H : Hp} {s : Shared} {T : String} {x : V} {v : Value} (I : Inv X pins σ H s) (r : RelV x v) (ty : tyV X.K T x H) :
    s.TypeIs v T ∧ ∀ a, v = .ref a → ∃ ob, s.heap.get? a = some ob ∧ ob.dict = none := by
  cases x with
  | str z =>
    obtain ⟨t, rfl⟩ := r
    cases (show T = "str" from ty)
    exact ⟨typeIs_str s z t, fun _ e => nomatch e⟩
  | int i =>
    obtain ⟨t, rfl⟩ := r
    cases (show T = "int" from ty)
    exact ⟨typeIs_int s i t, fun _ e => nomatch e⟩
  | ref p =>
    cases r
    rcases ty with ⟨rfl, xs, hq⟩ | ⟨rfl, o, hk, hc, hd⟩ | ⟨rfl, hk⟩ | ⟨rfl, S, n, hk⟩
    · obtain ⟨its, _, pl, _⟩ := I.list hq
      refine ⟨pl.isList.typeIs, fun a e => ?_⟩
      cases e
      obtain ⟨o, n, e, c, hd, _⟩ := pl
      exact ⟨o, e, hd⟩
    · refine ⟨⟨o, I.kIn p o hk, hc⟩, fun a e => ?_⟩
      cases e
      exact ⟨o, I.kIn _ o hk, hd⟩
    · have z : ∃ o, s.heap.get? p = some o ∧ o.ExactDict := by
        rcases hk with ⟨kvs, hk⟩ | ⟨kvs, hk⟩
        · obtain ⟨_, _, _, _, o, _, _, e, ex, _⟩ := I.hok p _ hk
          exact ⟨o, e, ex⟩
        · obtain ⟨_, _, _, _, o, _, _, e, ex, _⟩ := I.hok p _ hk
          exact ⟨o, e, ex⟩
      obtain ⟨o, e, ex⟩ := z
      refine ⟨⟨o, e, ex.1⟩, fun a e2 => ?_⟩
      cases e2
      exact ⟨o, e, ex.2.1⟩
    · obtain ⟨o, _, _, _, e, ex, _⟩ := I.hok p _ hk
      refine ⟨⟨o, e, ex.1⟩, fun a e2 => ?_⟩
      cases e2
      exact ⟨o, e, ex.2.1⟩
  | _ => exact False.elim ty
def tBM (K : PySem.W.Frag) (T : String) (r : V → List V → Hp → VK → Prop) (to : TE) (t : TA) : TE := fun σ H Q => to σ H fun x H1 => tyV K T x H1 ∧ t σ H1 fun xs H2 => r x xs H2 Q
variable {o e : Expr} {es : List Expr} {to : TE} {t : TA} {name : Str} {apos cpos : Pos} {T id : String} {r : V → List V → Hp → VK → Prop}
theorem pe_bm (pa : PlainAttrs T) (slot : Slot T name id) (hty : typeOf (.builtin id) = pure (.type "method_descriptor")) (hm : MtR X id r) (ho : PE X o to) (ha : PA X (e :: es) t)
    (hbase : attributeBase o name X.env (eval o X.env) = eval o X.env := by rfl)
    (hfew : ((backTo cpos (starEach (e :: es) X.env)).all (fun x => !x.1) && (backToKw cpos (keywordEach [] X.env)).all (fun x => x.1.isSome)
      && decide ((e :: es).length + ([] : List Keyword).length + (if ([] : List Keyword).isEmpty then 0 else 1) < 30)) = true := by rfl)
    (hline : (apos.endLine == cpos.line) = true := by rfl) (hs : starEach (e :: es) X.env = (false, eval e X.env) :: starEach es X.env := by rfl) (hplain : (backTo cpos (starEach es X.env)).any (·.1) = false := by rfl) :
    PE X (.Call (.Attribute o name apos) (e :: es) [] cpos) (tBM X.K T r to t) := by
  intro pins s σ H Q I h
  refine wpAny_Call_method_late hbase hfew hline rfl (thn (ho pins s σ H _ I h) fun v s1 ⟨x, H1, I1, r1, ty, q1⟩ => ?_)
  obtain ⟨h1, h2⟩ := tyV_is I1 r1 ty
  refine ⟨T, id, pa, slot, hty, h1, h2, ?_⟩
  have hA := ha cpos pins s1 σ H1 _ I1 q1
  rw [hs] at hA ⊢
  refine Calls.callWith_builtin (by show (false || (backTo cpos (starEach es X.env)).any (·.1)) = false; rw [hplain] <;> rfl) (Calls.evalArgs_plain ?_)
  exact thn hA fun us s2 ⟨vs, H2, I2, r2, q2⟩ => hm pins s2 σ H2 x vs v us Q I2 r1 r2 q2
/- xs.append(e), list.index on a module's tuple .. are MtR facts of 06m -/
end
end L2

namespace L2
open PySem PySem.Spec PyProof.Rows

def MtM (X : Cx) (id : String) (r : V → List V → Hp → VK → Prop) : Prop :=
  ∀ (pins : List (Addr × Obj)) (s : Shared) (σ : St) (H : Hp) (x : V) (xs : List V) (v : Value) (us : List Value) (Q : VK), Inv X pins σ H s → RelV x v → Vals xs us → r x xs H Q →
    wpAny (model X.prog X.w) X.A (call (.builtin id) (v :: us)) (EP X pins σ Q) X.xe s

/-! ### lists of values -/
theorem Vals.one : ∀ {x : V} {us : List Value}, Vals [x] us → ∃ u, us = [u] ∧ RelV x u
  | _, _, .cons r .nil => ⟨_, rfl, r⟩
theorem Vals.rep {xs : List V} {us : List Value} (h : Vals xs us) : ∀ k : Nat, Vals (List.replicate k xs).flatten (List.replicate k us).flatten
  | 0 => .nil
  | k + 1 => by
    rw [List.replicate_succ, List.replicate_succ, List.flatten_cons, List.flatten_cons]
    exact Vals.append h (Vals.rep h k)
theorem foldl_rep (its : List Value) : ∀ (k : Nat) (acc : List Value),
    List.foldl (fun x1 x2 => x1 ++ x2) acc.toArray (List.replicate k its.toArray) = (acc ++ (List.replicate k its).flatten).toArray
  | 0, acc => by simp
  | k + 1, acc => by
    have e : acc.toArray ++ its.toArray = (acc ++ its).toArray := by simp
    have e2 : (acc ++ its) ++ (List.replicate k its).flatten = acc ++ (List.replicate (k + 1) its).flatten := by
      rw [List.replicate_succ, List.flatten_cons, List.append_assoc]
    rw [← e2, ← foldl_rep its k (acc ++ its), ← e, List.replicate_succ, List.foldl_cons]

section
variable {X : Cx} {pins : List (Addr × Obj)} {σ : St} {H : Hp} {s : Shared} {l b : Addr} {xs ys zs : List V}

/-! ### the two steps: a tracked list is rewritten, a new list is laid -/
theorem Inv.lset {its its' : List Value} {n : Nat} {f : Array Value → Array Value} {t' : Nat} (I : Inv X pins σ H s) (hH : H l = some (.lst xs))
    (e : s.heap.get? l = some { cls := .type "list", data := .seq its.toArray n }) (hf : f its.toArray = its'.toArray) (hv : Vals ys its') (hz : ys.length ≤ sizeLine) :
    Inv X pins σ (upd H l (.lst ys)) { s with heap := s.heap.update l (Obj.mapSeq f), toks := t' } := by
  have q := PySem.IsL.update e f
  rw [hf] at q
  refine I.write (x := l) (e := l) (by rw [hH]; exact trivial) (.inl rfl) (fun b' u hb hu => (Heap.get?_update_other s.heap (Obj.mapSeq f) (Ne.symm hb)).trans hu) ⟨_, q⟩ ?_
  exact ⟨hz, its', _, hv, q⟩
theorem Inv.lnew {its : List Value} {t' : Nat} (I : Inv X pins σ H s) (hv : Vals ys its) (hz : ys.length ≤ sizeLine) :
    Inv X pins σ (upd H s.heap.objs.size (.lst ys)) { s with heap := s.heap.push { cls := .type "list", data := .seq its.toArray }, toks := t' } :=
  I.laid (fun _ _ q => Heap.get?_push_of_some _ q) (Nat.le_refl _) ⟨hz, its, 0, hv, Heap.get?_push_size _ rfl⟩
theorem Inv.fresh (I : Inv X pins σ H s) : H s.heap.objs.size = none := I.hok.fresh (Nat.le_refl _)
theorem Inv.lstM (I : Inv X pins σ H s) (hH : H l = some (.lst xs)) : xs.length ≤ sizeLine ∧ ∃ (its : List Value) (n : Nat), Vals xs its ∧ xs.length = its.length ∧ s.heap.get? l = some { cls := .type "list", data := .seq its.toArray n } := by
  obtain ⟨z, its, n, r, e⟩ := I.hok l _ hH
  exact ⟨z, its, n, r, r.length, e⟩

theorem notLongL {n : Nat} (h : n ≤ sizeLine) : Builtin.List.listTooLong n = false := by
  unfold Builtin.List.listTooLong
  exact decide_eq_false (by omega)
end

section
variable {X : Cx}

/-! ### methods -/
def rAppend : V → List V → Hp → VK → Prop := fun x vs H Q => ∃ l xs y, x = .ref l ∧ vs = [y] ∧ H l = some (.lst xs) ∧ xs.length < sizeLine ∧ Q .non (upd H l (.lst (xs ++ [y])))
theorem mt_append : MtM X "list.append" rAppend := by
  intro pins s σ H x vs v us Q I rx rv h
  obtain ⟨l, xs, y, rfl, rfl, hH, hz, q⟩ := h
  cases rx
  obtain ⟨u, rfl, ru⟩ := rv.one
  obtain ⟨z, its, n, r, hl, e⟩ := I.lstM hH
  refine call_meets F.slot_list_append ⟨_, e, rfl⟩ F.entry_list_append (F.args_list_append_2 _ _) (PySem.list_append l its.toArray n u (by rw [List.size_toArray]; omega)) ⟨e, ?_⟩
  refine ⟨.non, _, I.lset (its' := its ++ [u]) hH e (by simp) (r.append (.cons ru .nil)) ?_, rfl, q⟩
  rw [List.length_append, List.length_singleton]
  omega

def rExtend : V → List V → Hp → VK → Prop := fun x vs H Q => ∃ l b xs zs, x = .ref l ∧ vs = [.ref b] ∧ H l = some (.lst xs) ∧ H b = some (.lst zs) ∧ xs.length + zs.length ≤ sizeLine ∧ Q .non (upd H l (.lst (xs ++ zs)))
theorem mt_extend : MtM X "list.extend" rExtend := by
  intro pins s σ H x vs v us Q I rx rv h
  obtain ⟨l, b, xs, zs, rfl, rfl, hH, hB, hz, q⟩ := h
  cases rx
  obtain ⟨u, rfl, ru⟩ := rv.one
  cases ru
  obtain ⟨z, its, n, r, hl, e⟩ := I.lstM hH
  obtain ⟨z2, its2, n2, r2, hl2, e2⟩ := I.lstM hB
  have hsz : its.toArray.size + its2.toArray.size ≤ sizeLine := by rw [List.size_toArray, List.size_toArray]; omega
  have hlong : ¬ (!its.toArray.isEmpty && Builtin.List.listTooLong (its.toArray.size + its2.toArray.size)) = true := by
    rw [notLongL hsz, Bool.and_false]
    exact Bool.false_ne_true
  refine call_meets F.slot_list_extend ⟨_, e, rfl⟩ F.entry_list_extend (F.args_list_extend_2 _ _)
    (AutoSeq1.list_extend_list_list_0 l its.toArray n b its2.toArray n2 hlong (by rw [List.size_toArray]; omega) (by omega)) ⟨e, e2, ?_⟩
  refine ⟨.non, _, I.lset (its' := its ++ its2) hH e (by simp) (r.append r2) ?_, rfl, q⟩
  rw [List.length_append]
  omega

/-! ### list + list, list += list, list * int -/
/-- a list times an int (a negative one is nothing) -/
def rRep : R2 := fun x y H Q => ∃ l k xs, x = .ref l ∧ y = .int k ∧ H l = some (.lst xs) ∧ -(2 ^ 63) ≤ k ∧ k < 2 ^ 63 ∧ xs.length * k.toNat ≤ sizeLine ∧
  ∀ p, H p = none → Q (.ref p) (upd H p (.lst (List.replicate k.toNat xs).flatten))
theorem len_rep {α : Type} (xs : List α) (k : Nat) : (List.replicate k xs).flatten.length = k * xs.length := by
  induction k with
  | zero => simp
  | succ k ih => rw [List.replicate_succ, List.flatten_cons, List.length_append, ih, Nat.succ_mul, Nat.add_comm]
theorem op_rep : OpR X (binaryOp .Mult) rRep := by
  intro pins s σ H x y v u Q I rx ry h
  obtain ⟨l, k, xs, rfl, rfl, hH, h1, h2, hz, q⟩ := h
  cases rx
  obtain ⟨t, rfl⟩ := ry
  obtain ⟨z, its, n, r, hl, e⟩ := I.lstM hH
  have hlen : its.toArray.size * k.toNat ≤ sizeLine := by rw [List.size_toArray, ← hl]; exact hz
  have hcap : ¬ its.toArray.size * k.toNat > (2 ^ 63 - 1) / 8 := by
    have : (sizeLine : Nat) ≤ (2 ^ 63 - 1) / 8 := by decide
    omega
  have hfit : ¬ (!Builtin.List.listFitsIndex k) = true := by
    rw [fitsIndex_both h1 h2]
    exact Bool.false_ne_true
  have hlong : ¬ Builtin.List.listTooLong (its.toArray.size * k.toNat) = true := by
    rw [notLongL hlen]
    exact Bool.false_ne_true
  have hnew : List.foldl (fun x1 x2 => x1 ++ x2) #[] (List.replicate (if its.toArray.isEmpty = true then 0 else k.toNat) its.toArray) = (List.replicate k.toNat its).flatten.toArray := by
    have f0 : ∀ m : Nat, List.foldl (fun x1 x2 => x1 ++ x2) #[] (List.replicate m its.toArray) = (List.replicate m its).flatten.toArray := fun m => by
      have := foldl_rep its m []
      rw [List.nil_append] at this
      exact this
    rw [f0]
    cases its with
    | nil => simp
    | cons a r' => rw [if_neg (by simp)]
  refine wpAny_binaryOp_repeat_ref (T := "list") (U := "int") (by decide) ⟨_, e, rfl⟩ (fun s' => typeIs_int s' k t) noFill_list_mul F.fills_int_mul F.slot_int_rmul repeat_list F.slot_int_index.lookup
    (call_meets F.slot_int_rmul (typeIs_int s k t) F.entry_int_rmul (F.args_int_rmul_2 _ _) (int___rmul___int_list k t l its.toArray n)
      ⟨e, rfl, ⟨_, e, rfl⟩, call_meets F.slot_list_mul ⟨_, e, rfl⟩ F.entry_list_mul (F.args_list_mul_2 _ _) (AutoListH.list___mul___list_int_3 l its.toArray n k t hfit hcap hlong) ⟨e, ?_⟩⟩)
  rw [hnew]
  exact ⟨.ref _, _, I.lnew (t' := s.toks) (r.rep k.toNat) (by rw [len_rep, Nat.mul_comm]; exact hz), rfl, q _ I.fresh⟩

/-! ### del xs[i] -/
end

/-! ### xs[a:b] = ys -/
section
variable {prog : Program} {w : World} {A : Around} {E : Value → Shared → Prop} {s : Shared}
end

section
variable {X : Cx}
end
end L2

namespace Att
open PySem PySem.W PySem.Calls PyProof.Rows

/-! ### the script -/
theorem ints_of_wellAll {P : Params} {h : Heap} : ∀ (ns : List Int) (vs : List Value), WellAll P h vs (ns.map WData.int) → IntsAre vs ns := by
  intro ns
  induction ns with
  | nil =>
    intro vs w
    rw [List.map_nil] at w
    cases w
    exact .nil
  | cons n ns ih =>
    intro vs w
    rw [List.map_cons] at w
    cases w with
    | cons a b =>
      cases a
      exact .cons _ _ (ih _ b)

theorem script_of {l : OpenLaw} {n : Nat} (hn : l.most = some n) {P : Params} {h : Heap} {args : List WData} {vals : List Value}
    (hpre : l.row.toRowW.claim.pre args = true) (hwl : WellAll P h vals args) :
    ∃ a vs ns, vals = [Value.ref a] ∧ args = [WData.list (ns.map WData.int)] ∧ h.get? a = some { cls := .type "list", data := .seq vs.toArray } ∧ IntsAre vs ns ∧ ns.length ≤ n := by
  have hsh : WShape.hasAll [] args [.list .int] = true := (pre_splitW hpre).1
  have hc : l.pre.holds [] { args := args } = true := (pre_splitW hpre).2
  obtain ⟨d, r, rfl, h1, h2⟩ := hasAllW_cons hsh
  obtain rfl := hasAllW_nil h2
  obtain ⟨xs, rfl, h3⟩ := hasW_list h1
  obtain ⟨ns, rfl⟩ := items_int h3
  have hlen : ns.length ≤ n := by
    unfold OpenLaw.pre at hc
    have h4 : (WTm.not (.lt (.lit (.int (n : Int))) (.len (.arg 0)))).holds [] { args := [.list (ns.map .int)] } = true := by
      have h4 := (holds_andW hc).1
      rw [hn] at h4
      exact h4
    have h5 := condW_of h4 (w_not (w_lt w_lit (w_len_list (w_arg rfl))))
    rw [List.length_map] at h5
    refine Nat.le_of_not_lt fun q => ?_
    have q' : (n : Int) < ((ns.length : Nat) : Int) := by omega
    first
      | (rw [decide_eq_true q'] at h5; exact absurd h5 (by decide))
      | (simp at h5; omega)
  cases hwl with
  | cons w1 w2 =>
    cases w2
    cases w1 with
    | list ho hall => exact ⟨_, _, ns, rfl, rfl, ho, ints_of_wellAll ns _ hall, hlen⟩

theorem post_true (l : OpenLaw) (args : List WData) : l.row.toRowW.claim.post args (.bool true) args = true :=
  postW_of (r := l.row.toRowW) (X := (true == true))
    (show WShape.has [] (.bool true) .bool = true by first | rfl | decide | simp [WShape.has, WShape.arms, WShape.armsAll])
    (show (WTm.eq .res (.lit (.bool true))).value [] { args := args, res := some (.bool true), after := args } = some (.bool (true == true)) from w_eq_bool (w_res rfl) w_lit) rfl

/-! ### the attachment: holds_open's last premise (the goal 'hc' behind k_head) from a wpAny of the law's body -/
/-- the same from a codeAny of the CALL (for a layer whose function contracts speak of calls) -/
theorem attach_call {l : OpenLaw} {n : Nat} {q : Program} {loose : List Str} {XP : (Str → Option Value) → Heap → Prop} {YP : World → Heap → Prop} {d : DefRec}
    (hn : l.most = some n) (hdf : d.params.defaults = [])
    (call : ∀ (w : World) (s₀ s₁ : Shared) (mg mb : Str → Option Value) (fa : Addr) (o : Obj) (pm cd doc : Value) (a : Addr) (vs : List Value) (ns : List Int),
      Ground q loose [] XP w s₀ mg mb s₁.heap → YP w s₁.heap →
      s₁.heap.get? fa = some o → o.data = .func (docDef d.name d.params d.body d.scope pm cd doc) → s₁.heap.CodeRec cd d.name → mg d.name = some (.ref fa) →
      s₁.heap.get? a = some { cls := .type "list", data := .seq vs.toArray } → IntsAre vs ns → ns.length ≤ n → s₁.gens = #[] →
      codeAny (model l.prog w) callerA (.call (.ref fa) ⟨[.ref a], []⟩) (fun r s' => r = .ok (.ret (.bool true)) ∧ OldK s₁.heap s'.heap ∧ s'.os = s₁.os ∧ AllBare s'.gens) s₁) :
    WalkO q loose XP YP l.row.toRowW d [] (fun f vs => PySem.call f vs) := by
  intro w s₀ s₁ mg mb G Y fa o pm cd doc dV kV ho hd hcd hD hmg hg args vals as hpre hlay hrd hwl hlo
  obtain rfl : dV = .none := Dflts.none hD hdf
  obtain rfl : kV = .none := Dflts.noKw hD
  obtain ⟨a, vs, ns, rfl, rfl, hobj, hints, hlen⟩ := script_of hn hpre hwl
  refine enter_call (codeAny_mono (call w s₀ s₁ mg mb fa o pm cd doc a vs ns G Y ho (fd_plain hd) hcd hmg hobj hints hlen hg) fun r s' hq => ?_)
  obtain ⟨rfl, h2, h3, h4⟩ := hq
  exact ⟨.inl ⟨.bool true, .bool true, [], rfl, fun _ => rfl, .bool true, post_true l _, fun _ => ⟨List.Pairwise.nil, fun _ hm => (nomatch hm)⟩⟩, h2, h3, h4⟩

/-! ### rules over ANY heap (no ledger) from facts about the written part K: the library's own take a ledger (News) for what they write -/
section
variable {prog : Program} {w : World} {A : Around} {E : Value → Shared → Prop} {s : Shared} {K : Frag}

/-! the whole heap as the ledger: makes every rule that writes through a ledger a rule over any heap -/
def ledger (h : Heap) (L d : Addr) : List (Addr × Obj) := (List.range h.objs.size).filterMap fun a => if a = L ∨ a = d then none else (h.get? a).map fun o => (a, o)
end
end Att

namespace L2
open PySem PySem.Spec PyProof.Rows

theorem vals_ints : ∀ {vs : List Value} {ns : List Int}, IntsAre vs ns → Vals (ns.map V.int) vs
  | _, _, .nil => .nil
  | _, _, .cons n t h => .cons ⟨t, rfl⟩ (vals_ints h)

/-- nothing is tracked but the script, known to the object (or it is an object of the module) -/
def Only (H : Hp) : Prop := ∀ b, H b = none ∨ ∃ o xs, H b = some (.frz o (.lst xs))

/-- THE HEAD: the law's promise, at the heap behind the top. F, the promise of the law's def, may use that base is part of the heap (so K.In base, base.Ns mainGlobals mg stand in Mod) -/
theorem law_call {P : Program} {w : World} {K : PySem.W.Frag} {mg mb : Str → Option Value} {CX : CXT} {k : Nat} {fa a : Addr} {fd : FuncData} {x : Str} {sp : Sp} {s₁ : Shared} {vs : List Value} {ns : List Int}
    (KX : K.In s₁.heap) (hns : s₁.heap.Ns mainGlobals mg) (hb : s₁.heap.Ns builtinsNs mb) (hbb : ∀ x : Str, x ≠ "__name__" → mb x = bootBuiltins x) (hlim : s₁.heap.NoLimit) (hg : s₁.gens = #[])
    (ha : s₁.heap.get? a = some { cls := .type "list", data := .seq vs.toArray }) (hi : IntsAre vs ns) (hl : ns.length ≤ sizeLine) (hr : Room k callerA)
    (F : ∀ base : Heap, K.In base → base.Ns mainGlobals mg → FnOk P w K mg base CX k fa fd [x] sp) (hbind : ∀ (s : Shared) (u : Value), BindsTo s fd ⟨[u], []⟩ [(x, u)])
    (hsp : ∀ H : Hp, Only H → SqL K H a (ns.map V.int) → sp [.ref a] H (fun v _ => v = .bl true) fun _ _ _ => False)
    (hCX : ∀ H e s', CX [] H s₁ (fun _ _ _ => False) e s' → False) :
    codeAny (model P w) callerA (.call (.ref fa) ⟨[.ref a], []⟩) (fun r s' => r = .ok (.ret (.bool true)) ∧ OldK s₁.heap s'.heap ∧ s'.os = s₁.os ∧ AllBare s'.gens) s₁ := by
  have rv := vals_ints hi
  have lenV := hi.length
  -- from an abstract heap in which nothing but the script may be tracked
  have core : ∀ H : Hp, Only H → SqL K H a (ns.map V.int) → HOk P w H s₁.heap → (∀ b, H b ≠ none → b = a) → (H a ≠ none → K.lookup a = none) →
      codeAny (model P w) callerA (.call (.ref fa) ⟨[.ref a], []⟩) (fun r s' => r = .ok (.ret (.bool true)) ∧ OldK s₁.heap s'.heap ∧ s'.os = s₁.os ∧ AllBare s'.gens) s₁ := by
    intro H hO hS hok hA hK
    have base_of : ∀ {b : Addr} {o : Obj}, s₁.heap.get? b = some o → H b = none → (hidT s₁.heap H).get? b = some o := fun e n => hidT_get e n
    have noA : ∀ {b : Addr} {o : Obj} {es : Array DictEntry} {ep : Nat}, s₁.heap.get? b = some o → o.data = .dict es ep → H b = none := fun {b o es ep} e d => by
      cases q : H b with
      | none => rfl
      | some u =>
        have e' : b = a := hA b (by rw [q]; simp)
        subst e'
        rw [ha] at e; cases e
        have d' : Data.seq vs.toArray _ = Data.dict es ep := d
        cases d'
    have nsK : ∀ {b : Addr} {m : Str → Option Value}, s₁.heap.Ns b m → (hidT s₁.heap H).Ns b m := fun {b m} ⟨o, es, ep, e, d, r⟩ => ⟨o, es, ep, base_of e (noA e d), d, r⟩
    have hKb : K.In (hidT s₁.heap H) := fun b o e => base_of (KX b o e) (by
      cases q : H b with
      | none => rfl
      | some u =>
        have e' : b = a := hA b (by rw [q]; simp)
        subst e'
        rw [hK (by rw [q]; simp)] at e; cases e)
    have hM : Mod K mg (hidT s₁.heap H) := ⟨hKb, nsK hns, ⟨mb, nsK hb, hbb⟩, let ⟨mc, h1, h2⟩ := hlim; ⟨mc, nsK h1, h2⟩⟩
    have e0 : Env0 P w K mg (hidT s₁.heap H) callerA [] s₁ H := ⟨rfl, hM, fun b o e => of_hidT e, Nat.le_of_eq (hidT_size _ _), trivial, fun b hb => absurd (show b ∈ ([] : List Addr) from hb) (by simp), hok, .of_eq hg⟩
    refine codeAny_mono ((F _ hKb (nsK hns)).run callerA [] s₁ H ⟨[.ref a], []⟩ [.ref a] [.ref a] _ _ hr e0 (hbind s₁ (.ref a)) (.cons rfl .nil) (hsp H hO hS)) fun r s' h => ?_
    cases r with
    | error e => exact (hCX H e s' h).elim
    | ok fl =>
      cases fl with
      | next => exact False.elim h
      | brk => exact False.elim h
      | cont => exact False.elim h
      | ret u =>
        obtain ⟨v, H', os, bare, un, hok', r', q⟩ := h
        have q' : v = .bl true := q
        subst q'
        obtain rfl : u = Value.bool true := r'
        refine ⟨rfl, OldK.of_keep fun b o e => ?_, os, bare⟩
        cases q : H b with
        | none => exact un.keep b o e q (by intro z; exact absurd (show b ∈ ([] : List Addr) from z) (by simp)) (by simp)
        | some u =>
          rcases hO b with z | ⟨ob, xs, z⟩
          · rw [q] at z; cases z
          · have z2 := un.frzs b ob _ z
            obtain ⟨e1, _⟩ := hok b _ z
            obtain ⟨e2, _⟩ := hok' b _ z2
            rw [e] at e1; cases e1
            exact e2
  cases hk : K.lookup a with
  | some o =>
    -- the script is one of the module's own objects
    have e := KX a o hk
    rw [ha] at e
    cases e
    refine core (fun _ => none) (fun _ => .inl rfl) (.inr ⟨_, vs.toArray, _, hk, rfl, rfl, rfl, by rw [List.size_toArray, lenV]; exact hl, by simpa using rv⟩) (fun b u z => by have z' : (none : Option HO) = some u := z; cases z') (fun b z => absurd rfl z) fun z => absurd rfl z
  | none =>
    refine core (fun b => if b = a then some (.frz { cls := .type "list", data := .seq vs.toArray } (.lst (ns.map V.int))) else none) (fun b => ?_) (.inl (.inr ⟨{ cls := .type "list", data := .seq vs.toArray }, if_pos rfl⟩)) (fun b u z => ?_) (fun b z => ?_) fun _ => hk
    · by_cases hb : b = a
      · exact .inr ⟨_, _, if_pos hb⟩
      · exact .inl (if_neg hb)
    · by_cases hb : b = a
      · have z' := (if_pos hb).symm.trans z
        cases z'
        subst hb
        exact ⟨ha, by rw [List.length_map]; exact hl, vs, _, rv, ha⟩
      · have z' := (if_neg hb).symm.trans z
        cases z'
    · by_cases hb : b = a
      · exact hb
      · exact absurd (if_neg hb) z
end L2

namespace L2
open PySem PySem.Spec PyProof.Rows

/-- the goal that k_head leaves (case hc), from the law's promise. F gives the function object fd (K's own) once, then the promise over every base -/
theorem walk_of {l : PySem.W.OpenLaw} {n k : Nat} {q : Program} {loose : List Str} {XP : (Str → Option Value) → Heap → Prop} {YP : World → Heap → Prop} {d : DefRec} {K : Params → PySem.W.Frag} {CX : World → CXT} {sp : World → Sp} {x : Str}
    (hn : l.most = some n) (hn2 : n ≤ sizeLine) (hdf : d.params.defaults = []) (hr : Room k callerA)
    (hY : ∀ (w : World) (h : Heap), YP w h → (K w.params).In h)
    (F : ∀ (w : World) (mg : Str → Option Value) (fa : Addr) (h : Heap), (K w.params).In h → h.Ns mainGlobals mg → mg d.name = some (.ref fa) →
      ∃ fd : FuncData, (∀ (s : Shared) (u : Value), BindsTo s fd ⟨[u], []⟩ [(x, u)]) ∧
        ∀ base : Heap, (K w.params).In base → base.Ns mainGlobals mg → FnOk l.prog w (K w.params) mg base (CX w) k fa fd [x] (sp w))
    (hsp : ∀ (w : World) (H : Hp) (a : Addr) (ns : List Int), ns.length ≤ n → Only H → SqL (K w.params) H a (ns.map V.int) → sp w [.ref a] H (fun v _ => v = .bl true) fun _ _ _ => False)
    (hCX : ∀ (w : World) (H : Hp) (s : Shared) (e : Value) (s' : Shared), CX w [] H s (fun _ _ _ => False) e s' → False) :
    PySem.W.WalkO q loose XP YP l.row.toRowW d [] (fun f vs => PySem.call f vs) := by
  refine Att.attach_call hn hdf fun w s₀ s₁ mg mb fa o pm cd doc a vs ns G Y ho hd hcd hmg hobj hints hlen hg => ?_
  have KX := hY w _ Y
  obtain ⟨fd, hb, hF⟩ := F w mg fa _ KX G.T.g hmg
  exact law_call KX G.T.g G.T.b G.T.builtins G.T.nolimit hg hobj hints (Nat.le_trans hlen hn2) hr hF hb (fun H hO hS => hsp w H a ns hlen hO hS) fun H e s' => hCX w H s₁ e s'
end L2

/-! SHORT WORDS over the layer: a def of the text, its body, what a loop and a test want. -/
namespace L2
open PySem PySem.Spec PyProof.Rows

/-! ### the text by places -/
def defArgs (s : Stmt) : Arguments := match s with
  | .FunctionDef _ a _ _ _ _ _ _ _ _ => a
  | _ => { posonlyargs := [], args := [], vararg := none, kwonlyargs := [], kw_defaults := [], kwarg := none, defaults := [] }
def defBody (s : Stmt) : List Stmt := match s with
  | .FunctionDef _ _ b _ _ _ _ _ _ _ => b
  | _ => []
def defScope (s : Stmt) : Scope := match s with
  | .FunctionDef _ _ _ _ _ _ sc _ _ _ => sc
  | _ => { kind := .function, names := [], isGenerator := false, isCoroutine := false }

/-! ### no exception leaves a def -/
abbrev CX0 : CXT := fun _ _ _ _ _ _ => False
abbrev E0 : XK := fun _ _ _ => False
theorem pass0 {X : Cx} : Passes CX0 X E0 := fun _ _ _ _ _ _ _ h => h.elim

/-! ### a def (or method) of the text as it stands behind the top -/
structure Fun (K : PySem.W.Frag) (x qual : Str) (st : Stmt) (f : Addr) (fd : FuncData) : Prop where
  ex : ∃ (oc : Value) (od : Option Addr) (kV doc pm : Value) (an : Option Addr) (cdv ct : Value) (osl : Array (Option Value)),
    fd = PySem.W.fnOf x qual (defArgs st) (defBody st) (defScope st) .none kV doc pm an cdv ct ∧ K.lookup f = some ⟨oc, od, .func fd, osl⟩ ∧ PySem.W.codeIn K cdv qual = true
  kp : PySem.W.keepIn K (.ref f) = true
section
variable {P : Program} {w : World} {K : PySem.W.Frag} {mg : Str → Option Value} {base : Heap}
/-- THE RULE for a def: its body as a term of rules, and the reading of that term -/
theorem Fun.ok {x qual : Str} {st : Stmt} {f : Addr} {fd : FuncData} {N ps : List Str} {k : Nat} {sp : Sp} (F : Fun K x qual st f fd) (S : FnScope N ps (defScope st)) (len : ∀ vs H Q E, sp vs H Q E → vs.length = ps.length)
    (hbody : ∀ (cdv : Value) (A : Around) (outer : List Env) (s : Shared) (H : Hp) (vs : List V) (Q : VK) (E : XK), Room k (A.deeper (envOfC qual (defScope st) s.heap.objs.size f cdv)) → sp vs H Q E →
      ∃ t, PSs (cxOf CX0 P w K mg base N qual (defScope st) f cdv A outer s H E).nox (defBody st) t ∧ t { nx := fun _ H' => Q .non H', rt := Q } (start N vs) H) : FnOk P w K mg base CX0 (k + 1) f fd ps sp := by
  obtain ⟨oc, od, kV, doc, pm, an, cdv, ct, osl, rfl, lk, hcd⟩ := F.ex
  refine fn_of lk hcd S len fun A outer s H vs Q E hr hsp => ?_
  obtain ⟨t, h, q⟩ := hbody cdv A outer s H vs Q E hr hsp
  exact ⟨t, h.nox, q⟩
/-- how its arguments bind (no defaults): h is «fun _ _ _ _ _ _ us hl => match us, hl with | [_, _], _ => rfl», one _ a parameter -/
theorem Fun.binds {x qual : Str} {st : Stmt} {f : Addr} {fd : FuncData} {ps : List Str} (F : Fun K x qual st f fd)
    (h : ∀ (kV doc pm : Value) (an : Option Addr) (cdv ct : Value) (us : List Value), us.length = ps.length → bindArgs (PySem.W.fnOf x qual (defArgs st) (defBody st) (defScope st) .none kV doc pm an cdv ct) ⟨us, []⟩ = pure (ps.zip us)) : Binds K fd ps [] := by
  obtain ⟨oc, od, kV, doc, pm, an, cdv, ct, osl, rfl, lk, hcd⟩ := F.ex
  exact .all (h kV doc pm an cdv ct)
theorem fun_mk {x qual : Str} {st : Stmt} {f : Addr} {oc : Value} {od an : Option Addr} {osl : Array (Option Value)} {kV doc pm cdv ct : Value} (l : K.lookup f = some ⟨oc, od, .func (PySem.W.fnOf x qual (defArgs st) (defBody st) (defScope st) .none kV doc pm an cdv ct), osl⟩)
    (c : PySem.W.codeIn K cdv qual = true) (k : PySem.W.keepIn K (.ref f) = true) : Fun K x qual st f (PySem.W.fnOf x qual (defArgs st) (defBody st) (defScope st) .none kV doc pm an cdv ct) := ⟨⟨oc, od, kV, doc, pm, an, cdv, ct, osl, rfl, l, c⟩, k⟩
end
theorem hu_of {A : Around} {k : Nat} (hr : Room k A) : A.units + 1 < cLine := Nat.lt_of_le_of_lt (Nat.add_le_add_left (by decide : 1 ≤ 64) _) hr.units
theorem small1000 {n : Nat} (h : n ≤ 1000) : n < sizeLine := Nat.lt_of_le_of_lt h (by decide)

/-! ### expressions in short: the name that stands in the i-th slot -/
section
variable {X : Cx}
theorem pv (i : Nat) {x : Str} {pos : Pos} (hN : X.N[i]? = some x := by rfl) (hv : Vis X.env.scope x := by first | exact Or.inl rfl | exact Or.inr (Or.inl rfl) | exact Or.inr (Or.inr rfl)) (hd : (x == ("__debug__" : Str)) = false := by decide)
    (hcd : (x == ("__classdict__" : Str)) = false := by decide) : PE X (.Name x pos) (tVar i) := pe_var hN hv hd hcd
end

/-! ### tests -/
theorem iteF {A B : Prop} (h : B) : if false = true then A else B := by
  rw [if_neg Bool.false_ne_true]
  exact h
theorem iteT {A B : Prop} (h : A) : if true = true then A else B := by
  rw [if_pos rfl]
  exact h
/-! ### heaps -/
/-- all that was tracked is as it was -/
def Same (H H' : Hp) : Prop := ∀ b o, H b = some o → H' b = some o
theorem Same.refl (H : Hp) : Same H H := fun _ _ h => h
theorem Same.trans {H H1 H2 : Hp} (a : Same H H1) (b : Same H1 H2) : Same H H2 := fun c o h => b c o (a c o h)
theorem Same.free {H H' : Hp} (e : Same H H') {l : Addr} (h : H' l = Option.none) : H l = Option.none := by
  cases q : H l with
  | none => rfl
  | some o =>
    rw [e l o q] at h
    cases h
theorem Same.seq {K : PySem.W.Frag} {H H' : Hp} {a : Addr} {xs : List V} (e : Same H H') (h : SqL K H a xs) : SqL K H' a xs := by
  rcases h with (h | ⟨o, h⟩) | h
  · exact .inl (.inl (e _ _ h))
  · exact .inl (.inr ⟨o, e _ _ h⟩)
  · exact .inr h

end L2

set_option maxHeartbeats 4000000
namespace L2
open PySem PySem.Spec PyProof.Rows
/-! ### lists of pairs as tables -/
section
variable {κ : Type} [DecidableEq κ]
def valV (kvs : List (κ × V)) (k : κ) : Option V := (kvs.find? fun kv => decide (kv.1 = k)).map (·.2)
/-- in its place, or at the end -/
def putK (kvs : List (κ × V)) (k : κ) (v : V) : List (κ × V) :=
  if (kvs.any fun kv => decide (kv.1 = k)) = true then kvs.map (fun kv => if kv.1 = k then (kv.1, v) else kv) else kvs ++ [(k, v)]
theorem valV_pos {p : κ × V} {r : List (κ × V)} {k : κ} (e : p.1 = k) : valV (p :: r) k = some p.2 := by simp [valV, List.find?_cons, e]
theorem valV_neg {p : κ × V} {r : List (κ × V)} {k : κ} (e : ¬ p.1 = k) : valV (p :: r) k = valV r k := by simp [valV, List.find?_cons, e]
theorem valV_any (k : κ) : ∀ kvs : List (κ × V), (kvs.any fun kv => decide (kv.1 = k)) = (valV kvs k).isSome
  | [] => rfl
  | p :: r => by
    rw [List.any_cons]
    by_cases e : p.1 = k
    · simp only [valV_pos e, decide_eq_true e, Bool.true_or, Option.isSome_some]
    · rw [valV_neg e, decide_eq_false e, Bool.false_or]; exact valV_any k r
theorem length_putK (kvs : List (κ × V)) (k : κ) (v : V) : (putK kvs k v).length ≤ kvs.length + 1 := by
  unfold putK
  split
  · rw [List.length_map]; omega
  · rw [List.length_append, List.length_cons, List.length_nil]; omega
theorem RelO.isSome_eq {o : Option V} {u : Option Value} (r : RelO o u) : o.isSome = u.isSome := by
  cases o with
  | none => cases u with
    | none => rfl
    | some _ => exact (show False from r).elim
  | some _ => cases u with
    | none => exact (show False from r).elim
    | some _ => rfl
theorem RelO.getD {o : Option V} {u : Option Value} {d : V} {d' : Value} (r : RelO o u) (rd : RelV d d') : RelV (o.getD d) (u.getD d') := by
  cases o with
  | none => cases u with
    | none => exact rd
    | some _ => exact (show False from r).elim
  | some _ => cases u with
    | none => exact (show False from r).elim
    | some _ => exact r

/-- raw tables of the same keys -/
theorem KV.val {kvs : List (κ × V)} {vs : List (κ × Value)} (r : KV kvs vs) (k : κ) : RelO (valV kvs k) (valueAt vs k) := by
  unfold KV at r
  induction r with
  | nil => exact True.intro
  | @cons p q ps qs h t ih =>
    obtain ⟨h1, h2⟩ := h
    by_cases e : p.1 = k
    · have e' : q.1 = k := h1.symm.trans e
      have b : valueAt (q :: qs) k = some q.2 := by simp [valueAt, List.find?_cons, e']
      rw [valV_pos e, b]; exact h2
    · have e' : ¬ q.1 = k := fun z => e (h1.trans z)
      have b : valueAt (q :: qs) k = valueAt qs k := by simp [valueAt, List.find?_cons, e']
      rw [valV_neg e, b]; exact ih
theorem KV.any {kvs : List (κ × V)} {vs : List (κ × Value)} (r : KV kvs vs) (k : κ) : (kvs.any fun kv => decide (kv.1 = k)) = vs.any fun kv => decide (kv.1 = k) := by
  unfold KV at r
  induction r with
  | nil => rfl
  | cons h t ih => rw [List.any_cons, List.any_cons, ih, h.1]
theorem KV.repl {kvs : List (κ × V)} {vs : List (κ × Value)} (r : KV kvs vs) (k : κ) {y : V} {u : Value} (ry : RelV y u) :
    KV (kvs.map fun kv => if kv.1 = k then (kv.1, y) else kv) (vs.map fun kv => if kv.1 = k then (kv.1, u) else kv) := by
  unfold KV at r ⊢
  induction r with
  | nil => exact .nil
  | @cons p q ps qs h t ih =>
    rw [List.map_cons, List.map_cons]
    refine .cons ?_ ih
    obtain ⟨h1, h2⟩ := h
    by_cases e : p.1 = k
    · rw [if_pos e, if_pos (h1.symm.trans e)]; exact ⟨h1, ry⟩
    · rw [if_neg e, if_neg (fun z => e (h1.trans z))]; exact ⟨h1, h2⟩
theorem KV.put {kvs : List (κ × V)} {vs : List (κ × Value)} (r : KV kvs vs) (k : κ) {y : V} {u : Value} (ry : RelV y u) : KV (putK kvs k y) (stored vs k u) := by
  unfold putK stored
  rw [r.any k]
  by_cases e : (vs.any fun kv => decide (kv.1 = k)) = true
  · rw [if_pos e, if_pos e]; exact r.repl k ry
  · rw [if_neg e, if_neg e]; exact Paired.snoc r ⟨rfl, ry⟩
theorem KV.length {kvs : List (κ × V)} {vs : List (κ × Value)} (r : KV kvs vs) : kvs.length = vs.length := Paired.length r
end


/-! ### a tracked dict, its keys ints and texts or tuples of these -/
theorem kV_is {P : Program} {w : World} {k : Key} {u : Value} (r : RelV (kV k) u) : (mixKind P w).is k u = true := by
  cases k with
  | inl i => obtain ⟨t, e⟩ := (show ∃ t, u = Value.int i t from r); subst e; exact mixKind_int P w i t
  | inr x => obtain ⟨t, e⟩ := (show ∃ t, u = Value.str x t from r); subst e; exact mixKind_str P w x t
theorem items_are {P : Program} {w : World} : ∀ {ks : List Key} {us : List Value}, Vals (ks.map kV) us → ItemsAre (mixKind P w) ks us
  | [], _, r => by rw [List.map_nil] at r; cases r; exact .nil
  | k :: ks, _, r => by
    rw [List.map_cons] at r
    cases r with
    | cons h t => exact .cons (kV_is h) (items_are t)

/-- raw entries of a dict with tuple keys -/
abbrev KT (H : Hp) : List (List Key × V) → List (List Key × Addr × Value) → Prop := Paired fun p q => p.1 = q.1 ∧ H q.2.1 = some (.tup (p.1.map kV)) ∧ RelV p.2 q.2.2
theorem KT.val {H : Hp} {kvs : List (List Key × V)} {xs : List (List Key × Addr × Value)} (r : KT H kvs xs) (k : List Key) : RelO (valV kvs k) ((atKey xs k).map (·.2)) := by
  induction r with
  | nil => exact True.intro
  | @cons p q ps qs h t ih =>
    obtain ⟨h1, _, h2⟩ := h
    by_cases e : p.1 = k
    · have e' : q.1 = k := h1.symm.trans e
      have b : atKey (q :: qs) k = some q.2 := by simp [atKey, List.find?_cons, e']
      rw [valV_pos e, b]; exact h2
    · have e' : ¬ q.1 = k := fun z => e (h1.trans z)
      have b : atKey (q :: qs) k = atKey qs k := by simp [atKey, List.find?_cons, e']
      rw [valV_neg e, b]; exact ih
theorem KT.repl {H : Hp} {kvs : List (List Key × V)} {xs : List (List Key × Addr × Value)} (r : KT H kvs xs) (k : List Key) {y : V} {u : Value} (ry : RelV y u) :
    KT H (kvs.map fun kv => if kv.1 = k then (kv.1, y) else kv) (xs.map (putAt k u)) := by
  induction r with
  | nil => exact .nil
  | @cons p q ps qs h t ih =>
    rw [List.map_cons, List.map_cons]
    refine .cons ?_ ih
    obtain ⟨h1, h2, h3⟩ := h
    unfold putAt
    by_cases e : p.1 = k
    · rw [if_pos e, if_pos (h1.symm.trans e)]; exact ⟨h1, h2, ry⟩
    · rw [if_neg e, if_neg (fun z => e (h1.trans z))]; exact ⟨h1, h2, h3⟩
theorem KT.put {H : Hp} {kvs : List (List Key × V)} {xs : List (List Key × Addr × Value)} (r : KT H kvs xs) (k : List Key) {b : Addr} {y : V} {u : Value} (hb : H b = some (.tup (k.map kV))) (ry : RelV y u) :
    KT H (putK kvs k y) (storedH xs k b u) := by
  have e : (kvs.any fun kv => decide (kv.1 = k)) = (atKey xs k).isSome := by
    rw [valV_any, (r.val k).isSome_eq, Option.isSome_map]
  unfold putK storedH
  rw [e]
  by_cases q : (atKey xs k).isSome = true
  · rw [if_pos q, if_pos q]; exact r.repl k ry
  · rw [if_neg q, if_neg q]; exact Paired.snoc r ⟨rfl, hb, ry⟩
theorem KT.keeps {H H' : Hp} {kvs : List (List Key × V)} {xs : List (List Key × Addr × Value)} (r : KT H kvs xs) (ht : ∀ b ys, H b = some (.tup ys) → H' b = some (.tup ys)) : KT H' kvs xs :=
  Paired.mapP r fun _ _ z => ⟨z.1, ht _ _ z.2.1, z.2.2⟩

section
variable {P : Program} {w : World} {H : Hp} {h : Heap} {a : Addr}
theorem rd_of {u : HO} (ok : HOk P w H h) (e : Rd H a u) : ObjOk P w H h a u := e.ok ok
theorem dk_rd {kvs : List (Key × V)} (ok : HOk P w H h) (e : Rd H a (.dK kvs)) : kvs.length ≤ sizeLine ∧ (a == sysModules) = false ∧ ∃ vs, KV kvs vs ∧ h.DictOf (mixKind P w) a vs :=
  show ObjOk P w H h a (.dK kvs) from rd_of ok e
theorem dk_of {kvs : List (Key × V)} (ok : HOk P w H h) (e : H a = some (.dK kvs)) : kvs.length ≤ sizeLine ∧ (a == sysModules) = false ∧ ∃ vs, KV kvs vs ∧ h.DictOf (mixKind P w) a vs := dk_rd ok (.inl e)
/-- a tracked tuple of ints and texts is a key -/
theorem key_of {ks : List Key} (ok : HOk P w H h) (e : H a = some (.tup (ks.map kV))) : (tupleKind (mixKind P w)).is h ks a := by
  obtain ⟨_, its, r, o, h1, h2, n, h3⟩ := (show ObjOk P w H h a (.tup (ks.map kV)) from ok a _ e)
  exact ⟨o, its.toArray, n, h1, h2, h3, by simpa using items_are r⟩
theorem dt_rd {kvs : List (List Key × V)} (ok : HOk P w H h) (e : Rd H a (.dT kvs)) : kvs.length ≤ sizeLine ∧ (a == sysModules) = false ∧
    ∃ xs, KT H kvs xs ∧ h.DictOfH (tupleKind (mixKind P w)) a xs := by
  obtain ⟨z, y, xs, r, o, es, ep, h1, h2, h3, h4, h5⟩ := (show ObjOk P w H h a (.dT kvs) from rd_of ok e)
  refine ⟨z, y, xs, r, o, es, ep, h1, h2, h3, h4, fun x hx => ?_, h5⟩
  have all : ∀ {l : List (List Key × V)} {m : List (List Key × Addr × Value)}, KT H l m → ∀ x ∈ m, (tupleKind (mixKind P w)).is h x.1 x.2.1 := by
    intro l m q
    induction q with
    | nil => intro x hx; exact nomatch hx
    | @cons p q ps qs hq t ih =>
      intro x hx
      rcases List.mem_cons.mp hx with e | hx
      · subst e
        exact key_of ok (by rw [← hq.1]; exact hq.2.1)
      · exact ih x hx
  exact all r x hx
theorem dt_of {kvs : List (List Key × V)} (ok : HOk P w H h) (e : H a = some (.dT kvs)) : kvs.length ≤ sizeLine ∧ (a == sysModules) = false ∧
    ∃ xs, KT H kvs xs ∧ h.DictOfH (tupleKind (mixKind P w)) a xs := dt_rd ok (.inl e)
end

/-- what the dict at a holds at the key y -/
def DGet (H : Hp) (a : Addr) (y : V) (r : Option V) : Prop :=
  (∃ kvs k, Rd H a (.dK kvs) ∧ y = kV k ∧ r = valV kvs k) ∨ ∃ kvs k b, Rd H a (.dT kvs) ∧ y = .ref b ∧ H b = some (.tup (k.map kV)) ∧ r = valV kvs k
/-- the heap behind a[y] = v -/
def DPut (H : Hp) (a : Addr) (y v : V) (H' : Hp) : Prop :=
  (∃ kvs k, H a = some (.dK kvs) ∧ y = kV k ∧ kvs.length < sizeLine ∧ H' = upd H a (.dK (putK kvs k v))) ∨
  ∃ kvs k b, H a = some (.dT kvs) ∧ y = .ref b ∧ H b = some (.tup (k.map kV)) ∧ kvs.length < sizeLine ∧ H' = upd H a (.dT (putK kvs k v))
theorem DGet.t {H : Hp} {a b : Addr} {kvs : List (List Key × V)} {k : List Key} (e : H a = some (.dT kvs)) (eb : H b = some (.tup (k.map kV))) : DGet H a (.ref b) (valV kvs k) := .inr ⟨kvs, k, b, .inl e, rfl, eb, rfl⟩
theorem DPut.t {H : Hp} {a b : Addr} {kvs : List (List Key × V)} {k : List Key} {v : V} (e : H a = some (.dT kvs)) (eb : H b = some (.tup (k.map kV))) (hl : kvs.length < sizeLine) :
    DPut H a (.ref b) v (upd H a (.dT (putK kvs k v))) := .inr ⟨kvs, k, b, e, rfl, eb, hl, rfl⟩


section
variable {X : Cx} {pins : List (Addr × Obj)} {σ : St} {H : Hp} {s : Shared} {a : Addr} {y v : V} {u r : Value} {o : Option V} {A : Around} {E : Value → Shared → Prop}

theorem Inv.big (I : Inv X pins σ H s) : sysModules < s.heap.objs.size := by
  have h : mainGlobals < s.heap.objs.size := (I.mod.glob.keeps I.bk).lt
  exact Nat.lt_trans (by decide) h

/-- d[y], there -/
theorem d_getItem {Q : Value → Shared → Prop} (hu : A.units + 1 < cLine) (I : Inv X pins σ H s) (g : DGet H a y (some v)) (ry : RelV y u) (h : ∀ w' s', Inv X pins σ H s' → RelV v w' → Q w' s') :
    wpAny (model X.prog X.w) A (getItem (.ref a) u) Q E s := by
  rcases g with ⟨kvs, k, e, ey, l⟩ | ⟨kvs, k, b, e, ey, eb, l⟩
  · subst ey
    obtain ⟨z, hd, vs, rel, dd⟩ := dk_rd I.hok e
    obtain ⟨w', hw, rw'⟩ := RelO.some_of (v := v) (o := valueAt vs k) (by rw [l]; exact rel.val k)
    exact wpAny_getItem_of (kV_is ry) dd.mapOf hw (h w' _ (I.tok _) rw')
  · subst ey
    cases (show u = Value.ref b from ry)
    obtain ⟨z, hd, xs, rel, dd⟩ := dt_rd I.hok e
    obtain ⟨w', hw, rw'⟩ := RelO.some_of (v := v) (o := (atKey xs k).map (·.2)) (by rw [l]; exact rel.val k)
    obtain ⟨p, hp, hp2⟩ := Option.map_eq_some_iff.mp hw
    refine wpAny_getItem_heap (tupleKind_room_in1 hu) (key_of I.hok eb) dd hp ?_
    rw [hp2]
    exact h w' _ (I.tok _) rw'
/-- a dict's object is replaced -/
theorem d_write {h' : Heap} {t' : Nat} {ob : HO} (I : Inv X pins σ H s) (mu : Mut (H a)) (hs : Heap.SameBut a s.heap h') (he : ∃ q, h'.get? a = some q) (new : ObjOk X.prog X.w (upd H a ob) h' a ob) :
    Inv X pins σ (upd H a ob) { s with heap := h', toks := t' } :=
  I.write (x := a) (e := a) mu (.inl rfl) (fun b q hb z => (hs.2 b hb).trans z) he new
theorem dk_new {P : Program} {w : World} {H' : Hp} {h' : Heap} {kvs : List (Key × V)} {vs : List (Key × Value)} (z : kvs.length ≤ sizeLine) (hd : (a == sysModules) = false) (rel : KV kvs vs) (dd : h'.DictOf (mixKind P w) a vs) :
    ObjOk P w H' h' a (.dK kvs) := ⟨z, hd, vs, rel, dd⟩
/-- d[y] = v -/
theorem d_setItem {H' : Hp} {Q : Unit → Shared → Prop} (hu : A.units + 1 < cLine) (I : Inv X pins σ H s) (g : DPut H a y v H') (ry : RelV y u) (rv : RelV v r) (h : ∀ s', Inv X pins σ H' s' → Q () s') :
    wpAny (model X.prog X.w) A (setItem (.ref a) u r) Q E s := by
  rcases g with ⟨kvs, k, e, ey, l, eH⟩ | ⟨kvs, k, b, e, ey, eb, l, eH⟩
  · subst ey eH
    obtain ⟨z, hd, vs, rel, dd⟩ := dk_of I.hok e
    have hz : vs.length ≤ sizeLine := by rw [← rel.length]; exact z
    have hl : (putK kvs k v).length ≤ sizeLine := by have := length_putK kvs k v; omega
    refine wpAny_setItem_pairs (hsz := hz) (kV_is ry) dd fun h' dd' hs => h _ ?_
    have he : ∃ q, h'.get? a = some q := let ⟨q, _, _, hq, _⟩ := dd'; ⟨q, hq⟩
    exact d_write I (by rw [e]; exact True.intro) hs he (dk_new hl hd (rel.put k rv) dd')
  · subst ey eH
    cases (show u = Value.ref b from ry)
    obtain ⟨z, hd, xs, rel, dd⟩ := dt_of I.hok e
    have hz : xs.length ≤ sizeLine := by rw [← Paired.length rel]; exact z
    have hl : (putK kvs k v).length ≤ sizeLine := by have := length_putK kvs k v; omega
    refine wpAny_setItem_heap (hsz := hz) (tupleKind_room_in1 hu) (key_of I.hok eb) dd fun h' dd' hs => h _ ?_
    obtain ⟨q, es, ep, hq, h2, h3, h4, _, h5⟩ := dd'
    refine d_write I (by rw [e]; exact True.intro) hs ⟨q, hq⟩ ⟨hl, hd, _, (rel.put k eb rv).keeps fun c ys ec => ?_, q, es, ep, hq, h2, h3, h4, h5⟩
    rw [upd_ne (ne_of ec e (fun z => nomatch z))]
    exact ec
end

section
variable {X : Cx} {pins : List (Addr × Obj)} {σ : St} {H : Hp} {s : Shared} {a : Addr} {kvs : List (Key × V)} {k : Key} {u : Value} {A : Around} {E : Value → Shared → Prop}
end


/-! ### readings and rules -/
/-- the element of a subscription, not a slice -/
def NoSl (i : Expr) : Prop := ∀ ov iv, subscripted i false ov iv = operate [ov, iv] (getItem ov iv)
theorem subD_of {prog : Program} {w : World} {A : Around} {E : Value → Shared → Prop} {s : Shared} {env : Env} {value slice : Expr} {pos : Pos} {T id : String} {Q : Value → Shared → Prop}
    (hl : typeLookup (.type T) "__getitem__" = pure (some (.builtin id))) (hs : NoSl slice)
    (h : wpAny (model prog w) A (eval value env) (fun o s₁ => wpAny (model prog w) A (eval slice env) (fun i s₂ => s₂.TypeIs o T ∧ wpAny (model prog w) A (getItem o i) Q E s₂) E s₁) E s) :
    wpAny (model prog w) A (eval (.Subscript value slice pos) env) Q E s := by
  refine Subscript_ (wpAny_mono h (fun o s₁ h₁ => wpAny_mono h₁ (fun i s₂ h₂ => ?_) fun _ _ x => x) fun _ _ x => x)
  obtain ⟨hT, h₂⟩ := h₂
  unfold subscriptTail
  refine wpAny_bind ?_
  rw [getitemInPython_of_ne hT.not_modules]
  refine wpAny_bind (wpAny_specialOf hT hl ?_)
  have fin : wpAny (model prog w) A (subscripted slice false o i) (fun r s₃ => wpAny (model prog w) A (letTemporaryGo value o r >>= fun _ => pure r) Q E s₃) E s₂ := by
    rw [hs o i]
    exact wpAny_operating (wpAny_mono h₂ (fun r s₃ h₃ => wpAny_bind (wpAny_letTemporaryGo (wpAny_pure h₃))) fun _ _ x => x)
  first
    | exact wpAny_pure (wpAny_bind fin)
    | exact wpAny_bind (wpAny_pure (wpAny_bind fin))
    | exact wpAny_bind fin

theorem dict_typeIs {X : Cx} {pins : List (Addr × Obj)} {σ : St} {H : Hp} {s : Shared} {a : Addr} {y : V} {o : Option V} (I : Inv X pins σ H s) (g : DGet H a y o) : s.TypeIs (.ref a) "dict" := by
  rcases g with ⟨kvs, k, e, _, _⟩ | ⟨kvs, k, b, e, _, _, _⟩
  · obtain ⟨_, _, vs, _, dd⟩ := dk_rd I.hok e
    exact dd.typeIs
  · obtain ⟨_, _, xs, _, dd⟩ := dt_rd I.hok e
    exact dd.typeIs
/-- d[y] -/
def tDGet (td ty : TE) : TE := fun σ H Q => td σ H fun x H1 => ty σ H1 fun y H2 => ∃ a v, x = .ref a ∧ DGet H2 a y (some v) ∧ Q v H2
/-- d[y] = v -/
def sDPut (td ty tv : TE) : TS := fun D σ H => tv σ H fun v H1 => td σ H1 fun x H2 => ty σ H2 fun y H3 => ∃ a H4, x = .ref a ∧ DPut H3 a y v H4 ∧ D.nx σ H4
section
variable {X : Cx} {o i e value : Expr} {pos pos' tpos : Pos} {td ty tv : TE}
theorem pe_dget (hu : X.A.units + 1 < cLine) (ho : PE X o td) (hi : PE X i ty) (hs : NoSl i) : PE X (.Subscript o i pos) (tDGet td ty) := by
  intro pins s σ H Q I h
  refine subD_of PySem.F.slot_dict_getitem.lookup hs (thn (ho pins s σ H _ I h) fun u s1 ⟨x, H1, I1, rx, q1⟩ => thn (hi pins s1 σ H1 _ I1 q1) fun iv s2 ⟨y, H2, I2, ry, a, v, ex, g, q2⟩ => ?_)
  subst ex
  obtain rfl : u = Value.ref a := rx
  exact ⟨dict_typeIs I2 g, d_getItem hu I2 g ry fun w' s3 I3 rw' => ⟨v, H2, I3, rw', q2⟩⟩
theorem ps_dput (hu : X.A.units + 1 < cLine) (ho : PE X o td) (hi : PE X i ty) (hv : PE X value tv) (hs : swapsWith value (some (.Subscript o i pos')) pos.line X.env = pure false) :
    PS X (.Assign [.Subscript o i pos'] value pos) (sDPut td ty tv) := by
  intro pins s σ H D I h
  refine wpAny_Assign_Subscript (thn (hv pins s σ H _ I h) fun r s1 ⟨v, H1, I1, rv, q1⟩ => thn (ho pins s1 σ H1 _ I1 q1) fun u s2 ⟨x, H2, I2, rx, q2⟩ => thn (hi pins s2 σ H2 _ I2 q2) fun iv s3 ⟨y, H3, I3, ry, a, H4, ex, g, q3⟩ => ?_) hs
  subst ex
  obtain rfl : u = Value.ref a := rx
  exact d_setItem hu I3 g ry rv fun s4 I4 => ⟨σ, H4, I4, q3⟩
end


/-! ### displays -/
theorem dt_empty {P : Program} {w : World} {H : Hp} (h : Heap) (hb : sysModules < h.objs.size) : ObjOk P w H (h.push { cls := .type "dict", data := .dict #[] }) h.objs.size (.dT []) :=
  ⟨Nat.zero_le _, beq_eq_false_iff_ne.mpr (Ne.symm (Nat.ne_of_lt hb)), [], .nil, _, #[], 0, Heap.get?_push_size _ rfl, ⟨rfl, rfl, rfl⟩, rfl, rfl, List.nodup_nil⟩
def tDNewT : TE := fun _ H Q => ∀ p, H p = none → Q (.ref p) (upd H p (.dT []))
section
variable {X : Cx} {pos : Pos}
theorem pe_dnewT : PE X (.Dict [] [] pos) tDNewT := fun pins s σ H Q I h =>
  wpAny_Dict_empty ⟨.ref s.heap.objs.size, _, I.laid (a := s.heap.objs.size) (o := .dT []) (t' := s.toks) (fun _ _ q => Heap.get?_push_of_some _ q) (Nat.le_refl _) (dt_empty s.heap I.big), rfl, h _ (I.hok.fresh (Nat.le_refl _))⟩
end

/-! ### methods -/
structure M2 (X : Cx) (o : Expr) (m : Str) (apos : Pos) (e f : Expr) (cpos : Pos) : Prop where
  base : attributeBase o m X.env (eval o X.env) = eval o X.env
  few : ((backTo cpos (starEach [e, f] X.env)).all (fun x => !x.1) && (backToKw cpos (keywordEach [] X.env)).all (fun x => x.1.isSome)
    && decide (([e, f] : List Expr).length + ([] : List Keyword).length + (if ([] : List Keyword).isEmpty then 0 else 1) < 30)) = true
  line : (apos.endLine == cpos.line) = true
  trees : backTo cpos (starEach [e, f] X.env) = [(false, eval e X.env), (false, eval f X.env)]

/-- a is a dict, whatever its keys -/
def IsD (H : Hp) (a : Addr) : Prop := (∃ kvs, Rd H a (.dK kvs)) ∨ ∃ kvs, Rd H a (.dT kvs)
theorem isD_at {X : Cx} {pins : List (Addr × Obj)} {σ : St} {H : Hp} {s : Shared} {a : Addr} (I : Inv X pins σ H s) (d : IsD H a) :
    s.TypeIs (.ref a) "dict" ∧ (∀ b, Value.ref a = .ref b → ∃ ob, s.heap.get? b = some ob ∧ ob.dict = none) ∧ (a == sysModules) = false := by
  rcases d with ⟨kvs, e⟩ | ⟨kvs, e⟩
  · obtain ⟨_, hd, vs, _, dd⟩ := dk_rd I.hok e
    refine ⟨dd.typeIs, fun b q => ?_, hd⟩
    cases q
    obtain ⟨ob, _, _, h1, h2, _⟩ := dd
    exact ⟨ob, h1, h2.2.1⟩
  · obtain ⟨_, hd, xs, _, dd⟩ := dt_rd I.hok e
    refine ⟨dd.typeIs, fun b q => ?_, hd⟩
    cases q
    obtain ⟨ob, _, _, h1, h2, _⟩ := dd
    exact ⟨ob, h1, h2.2.1⟩

section
variable {X : Cx} {pins : List (Addr × Obj)} {σ : St} {H : Hp} {s : Shared} {a : Addr} {y d : V} {u r : Value} {o : Option V} {A : Around} {E : Value → Shared → Prop}
/-- d.get(y, x) -/
theorem d_get2 {Q : Value → Shared → Prop} (hu : A.units + 1 < cLine) (I : Inv X pins σ H s) (g : DGet H a y o) (ry : RelV y u) (rd : RelV d r) (h : ∀ w' s', Inv X pins σ H s' → RelV (o.getD d) w' → Q w' s') :
    wpAny (model X.prog X.w) A (call (.builtin "dict.get") [.ref a, u, r]) Q E s := by
  rcases g with ⟨kvs, k, e, ey, l⟩ | ⟨kvs, k, b, e, ey, eb, l⟩
  · subst ey
    obtain ⟨z, hd, vs, rel, dd⟩ := dk_rd I.hok e
    refine call_meetsIn PySem.F.slot_dict_get dd.typeIs PySem.F.entry_dict_get (PySem.F.args_dict_get_3 _ _ _) (meets_dict_get_default (mixKind X.prog X.w) a (kV_is ry) hd r) ⟨_, dd.mapOf, h _ _ (I.tok _) ?_⟩
    rw [l]
    exact (rel.val k).getD rd
  · subst ey
    cases (show u = Value.ref b from ry)
    obtain ⟨z, hd, xs, rel, dd⟩ := dt_rd I.hok e
    refine call_meetsIn PySem.F.slot_dict_get dd.typeIs PySem.F.entry_dict_get (PySem.F.args_dict_get_3 _ _ _) (meetsH_dict_get_default (tupleKind (mixKind X.prog X.w)) a b hd r) ⟨tupleKind_room_in1 hu, k, xs, key_of I.hok eb, dd, h _ _ (I.tok _) ?_⟩
    rw [l]
    exact (rel.val k).getD rd
end

def tDGet2 (td ty tx : TE) : TE := fun σ H Q => td σ H fun x H1 => ∃ a, x = .ref a ∧ IsD H1 a ∧ ty σ H1 fun y H2 => tx σ H2 fun z H3 => ∃ o, DGet H3 a y o ∧ Q (o.getD z) H3
section
variable {X : Cx} {o e f : Expr} {apos cpos : Pos} {td ty tx : TE}
theorem pe_dget2 (hu : X.A.units + 1 < cLine) (ho : PE X o td) (he : PE X e ty) (hf : PE X f tx) (m : M2 X o "get" apos e f cpos) : PE X (.Call (.Attribute o "get" apos) [e, f] [] cpos) (tDGet2 td ty tx) := by
  intro pins s σ H Q I h
  refine wpAny_Call_method m.base m.few m.line PySem.F.plainAttrs_dict PySem.F.slot_dict_get PySem.F.type_dict_get (thn (ho pins s σ H _ I h) fun u s1 ⟨x, H1, I1, rx, a, ex, d, q1⟩ => ?_)
  subst ex
  obtain rfl : u = Value.ref a := rx
  obtain ⟨t1, t2, _⟩ := isD_at I1 d
  refine ⟨t1, t2, ?_⟩
  rw [m.trees]
  refine Calls.callWith_builtin rfl (Calls.evalArgs_plain (Calls.spliced_cons (thn (he pins s1 σ H1 _ I1 q1) fun iv s2 ⟨y, H2, I2, ry, q2⟩ =>
    Calls.spliced_cons (thn (hf pins s2 σ H2 _ I2 q2) fun fv s3 ⟨z, H3, I3, rz, ov, g, q3⟩ => Calls.spliced_nil ?_))))
  exact d_get2 hu I3 g ry rz fun w' s4 I4 rw' => ⟨_, H3, I4, rw', q3⟩
end

/-! ### dict(d): a copy -/
section
variable {X : Cx} {pins : List (Addr × Obj)} {σ : St} {H : Hp} {s : Shared} {a : Addr} {kvs : List (Key × V)} {A : Around} {E : Value → Shared → Prop}
end


section
variable {X : Cx} {pins : List (Addr × Obj)} {σ : St} {H : Hp} {s : Shared} {a : Addr} {y : V} {u : Value} {A : Around} {E : Value → Shared → Prop}
end
end L2
/-! ### my own rules over the layer -/
namespace L2
open PySem PySem.Spec PyProof.Rows
section
variable {X : Cx} {pos : Pos} {a b c d : Expr} {ta tb tc td : TE}
/-- isinstance(x, T), T a built-in type -/
theorem call_isi : CallR X (.builtin "isinstance") (fun xs H Q => ∃ x n t b, xs = [x, .ty n] ∧ TyOf X.K H x t ∧ PySem.W.kitOne X.K t (.type n) = some b ∧ Q (.bl b) H) := by
  intro pins s σ H xs us Q I r h
  obtain ⟨x, n, t, b, rfl, ty, e, q⟩ := h
  obtain ⟨u, w', rfl, ru, rw'⟩ := vals2 r
  obtain rfl : w' = Value.type n := rw'
  exact isinst_ok I ru ty e fun tk => ⟨.bl b, H, I.tok tk, rfl, q⟩
end
/-! ### what isinstance tells of built-in types -/
section
open PySem.W
variable {K : Frag}
theorem kit_of {t c : String} {b : Bool} (h1 : (Value.type t == Value.type c) = false) (h2 : kitMeta c = true) (h3 : (fastBuiltinMro t).map (·.contains (Value.type c)) = some b) : kitOne K (.type t) (.type c) = some b := by
  unfold kitOne
  rw [if_neg (by rw [h1]; decide)]
  unfold kitCls
  show (if kitMeta c = true then subIn K (.type t) (.type c) else none) = some b
  rw [if_pos h2]
  exact h3
theorem kit_int_bool : kitOne K (.type "int") (.type "bool") = some false := kit_of (by decide +kernel) (by decide +kernel) (by decide +kernel)
end
/-! ### tests -/
theorem iteD {c A B : Prop} [Decidable c] (h1 : c → A) (h2 : ¬ c → B) : if decide c = true then A else B := by
  by_cases h : c
  · rw [if_pos (decide_eq_true h)]; exact h1 h
  · rw [if_neg (by rw [decide_eq_false h]; decide)]; exact h2 h
theorem iteDn {c A B : Prop} [Decidable c] (h1 : ¬ c → A) (h2 : c → B) : if (!decide c) = true then A else B := by
  by_cases h : c
  · rw [if_neg (by rw [decide_eq_true h]; decide)]; exact h2 h
  · rw [if_pos (by rw [decide_eq_false h]; rfl)]; exact h1 h
theorem iteE {A B : Prop} {i j : Int} (h1 : i = j → A) (h2 : i ≠ j → B) : if decide (V.int i = V.int j) = true then A else B := iteD (fun h => h1 (V.int.inj h)) fun h => h2 fun e => h (congrArg V.int e)
theorem iteNE {A B : Prop} {i j : Int} (h1 : i ≠ j → A) (h2 : i = j → B) : if (!decide (V.int i = V.int j)) = true then A else B := iteDn (fun h => h1 fun e => h (congrArg V.int e)) fun h => h2 (V.int.inj h)
/-! ### heaps -/
theorem Same.put {H H1 : Hp} {l : Addr} {o : HO} (s : Same H H1) (n : H l = none) : Same H (upd H1 l o) := fun b u e => by
  rw [upd_ne (ne_of_none e n)]; exact s b u e
theorem Same.new {H : Hp} {l : Addr} {o : HO} (n : H l = none) : Same H (upd H l o) := (Same.refl H).put n
end L2
/-! ### a list comprehension of one clause -/
namespace L2
open PySem PySem.Spec PyProof.Rows
/-- the loop of a comprehension, a turn at a time, whatever its target is -/
theorem comp_loop {prog : Program} {w : World} {A : Around} {R : Result → Shared → Prop} {s : Shared} {elt target iter : Expr} {ifs : List Expr} {scope : Scope} {pos : Pos} {it acc : Value} {env : Env} (I : Nat → Shared → Prop)
    (turn : ∀ n s, I n s → wpAny (model prog w) A (pyNext it) (fun r s₁ => match r with
      | none => R (.ok .next) s₁
      | some v => wpAny (model prog w) A (letOwnedTupleGo target it v) (fun _ s₁' => wpAny (model prog w) A (assign target env v) (fun _ s₂ =>
          wpAny (model prog w) A (forIn ifs true fun c r => if r = true then do let ok ← isTrue c env (eval c env); pure (ForInStep.yield ok) else pure (ForInStep.yield r)) (fun ok s₃ =>
            if ok = true then wpAny (model prog w) A (eval elt env) (fun x s₄ =>
              wpAny (model prog w) A (call (.builtin "list.append") [acc, x]) (fun _ s₅ => ∃ m, m < n ∧ I m s₅) (notedBy (model prog w) A env fun e s' => R (.error e) s') s₄) (notedBy (model prog w) A env fun e s' => R (.error e) s') s₃
            else ∃ m, m < n ∧ I m s₃) (notedBy (model prog w) A env fun e s' => R (.error e) s') s₂) (notedBy (model prog w) A env fun e s' => R (.error e) s') s₁') (notedBy (model prog w) A env fun e s' => R (.error e) s') s₁) (notedBy (model prog w) A env fun e s' => R (.error e) s') s)
    (n : Nat) (h : I n s) :
    codeAny (model prog w) A (.compLoop (.ListComp elt [⟨target, iter, ifs, 0⟩] scope pos) 0 it acc env) R s := by
  refine codeAny_loop rfl I (fun n s hI => ?_) n h
  show wpAny _ A ((compTurn (.ListComp elt [⟨target, iter, ifs, 0⟩] scope pos) 0 it acc env).onRaise (fun x => do noteFrame x env; theTreesLotGoes x)) _ _ s
  refine wpAny_noted ?_
  rw [compTurn_list]
  refine wpAny_bind (wpAny_standAt (wpAny_bind (wpAny_mono (turn n s hI) (fun r s₁ h₁ => ?_) fun _ _ h' => h')))
  cases r with
  | none => exact wpAny_pure h₁
  | some v =>
    refine wpAny_bind (wpAny_mono h₁ (fun _ s₁' h₁' => wpAny_bind (wpAny_mono h₁' (fun _ s₂ h₂ => wpAny_bind (wpAny_mono h₂ (fun ok s₃ h₃ => ?_) fun _ _ h' => h')) fun _ _ h' => h')) fun _ _ h' => h')
    cases ok with
    | false => exact wpAny_pure ⟨rfl, h₃⟩
    | true =>
      exact wpAny_bind (wpAny_bind (wpAny_mono h₃ (fun x s₄ h₄ => wpAny_bind (wpAny_mono h₄ (fun _ s₅ h₅ => wpAny_pure (wpAny_pure ⟨rfl, h₅⟩)) fun _ _ h' => h')) fun _ _ h' => h'))
/-- the cells that a comprehension sees -/
def clOf (env : Env) : List (Str × NameKind) → List (Str × Addr) → List (Str × Addr)
  | [], cs => cs
  | (n, k) :: r, cs => clOf env r (if k = .free then (n, (env.cells.lookup n).getD 0) :: cs else cs)
theorem clOf_run {env : Env} : ∀ (ns : List (Str × NameKind)) (cs : List (Str × Addr)), (∀ y ∈ ns, y.2 = .free → ∃ c, env.cells.lookup y.1 = some c) →
    (forIn ns cs fun (x : Str × NameKind) (r : List (Str × Addr)) => (if (x.2 == .free) = true then do let c ← cellOf env x.1; pure (ForInStep.yield ((x.1, c) :: r)) else pure (ForInStep.yield r) : Sem (ForInStep (List (Str × Addr))))) = (pure (clOf env ns cs) : Sem _)
  | [], cs, _ => rfl
  | (n, k) :: r, cs, h => by
    have hr := fun y hy => h y (List.mem_cons_of_mem _ hy)
    by_cases hk : k = .free
    · obtain ⟨c, hc⟩ := h (n, k) List.mem_cons_self hk
      subst hk
      rw [List.forIn_cons]
      have e : cellOf env n = pure c := by unfold cellOf; rw [hc]
      simp only [beq_self_eq_true, if_true, e, pure_bind]
      rw [clOf_run r _ hr]
      show _ = pure (clOf env r (if NameKind.free = NameKind.free then (n, (env.cells.lookup n).getD 0) :: cs else cs))
      rw [if_pos rfl, show env.cells.lookup n = some c from hc]
      rfl
    · have hb : (k == NameKind.free) = false := by simpa using hk
      rw [List.forIn_cons]
      simp only [hb, Bool.false_eq_true, if_false, pure_bind]
      rw [clOf_run r _ hr]
      show _ = pure (clOf env r (if k = NameKind.free then (n, (env.cells.lookup n).getD 0) :: cs else cs))
      rw [if_neg hk]
theorem closure_is {env : Env} {scope : Scope} (h : ∀ y ∈ scope.names, y.2 = .free → ∃ c, env.cells.lookup y.1 = some c) : closureFor scope env = pure (clOf env scope.names []) := by
  unfold closureFor
  have e := clOf_run scope.names [] h
  simp only [bind_pure] at e ⊢
  exact e
theorem clOf_lookup {env : Env} {x : Str} {c : Addr} : ∀ (ns : List (Str × NameKind)) (cs : List (Str × Addr)), (∀ y ∈ ns, y.2 = .free → ∃ c, env.cells.lookup y.1 = some c) → (∀ x c, cs.lookup x = some c → env.cells.lookup x = some c) →
    (clOf env ns cs).lookup x = some c → env.cells.lookup x = some c
  | [], cs, _, hc, e => hc x c e
  | (n, k) :: r, cs, h, hc, e => by
    unfold clOf at e
    refine clOf_lookup r _ (fun y hy => h y (List.mem_cons_of_mem _ hy)) (fun x' c' e' => ?_) e
    by_cases hk : k = .free
    · rw [if_pos hk] at e'
      obtain ⟨c0, h0⟩ := h (n, k) List.mem_cons_self hk
      rw [h0] at e'
      rw [List.lookup_cons] at e'
      by_cases q : x' == n
      · rw [q] at e'
        cases e'
        rw [beq_iff_eq.mp q]
        exact h0
      · have q' : (x' == n) = false := by simpa using q
        rw [q'] at e'
        exact hc x' c' e'
    · rw [if_neg hk] at e'
      exact hc x' c' e'
theorem clOf_has0 {env : Env} {x : Str} : ∀ (ns : List (Str × NameKind)) (cs : List (Str × Addr)), (∃ c, cs.lookup x = some c) → ∃ c, (clOf env ns cs).lookup x = some c
  | [], cs, h => h
  | (n, k) :: r, cs, h => by
    unfold clOf
    refine clOf_has0 r _ ?_
    by_cases hk : k = .free
    · rw [if_pos hk, List.lookup_cons]
      by_cases q : x == n
      · rw [q]; exact ⟨_, rfl⟩
      · have q' : (x == n) = false := by simpa using q
        rw [q']; exact h
    · rw [if_neg hk]; exact h
theorem clOf_has {env : Env} {x : Str} : ∀ (ns : List (Str × NameKind)) (cs : List (Str × Addr)), (x, NameKind.free) ∈ ns → ∃ c, (clOf env ns cs).lookup x = some c
  | (n, k) :: r, cs, h => by
    unfold clOf
    rcases List.mem_cons.mp h with e | e
    · cases e
      rw [if_pos rfl]
      exact clOf_has0 r _ ⟨_, by rw [List.lookup_cons, beq_self_eq_true]⟩
    · exact clOf_has r _ e

/-- the context of a comprehension's block -/
def Cx.comp (X : Cx) (scope : Scope) (C : Addr) (N : List Str) (s₀ : Shared) (H₀ : Hp) (ex : List Addr) (E : Value → Shared → Prop) : Cx where
  prog := X.prog
  w := X.w
  K := X.K
  mg := X.mg
  base := X.base
  A := X.A
  N := N
  s₀ := s₀
  H₀ := H₀
  env := compEnvC scope (clOf X.env scope.names []) C X.env
  outer := X.stack
  stack := X.stack
  ex := ex
  fn := fun _ => false
  calm := X.calm
  pn := []
  xe := E
/-- the tests of a clause -/
def PIfs (X : Cx) (ifs : List Expr) (t : TT) : Prop :=
  ∀ (pins : List (Addr × Obj)) (s : Shared) (σ : St) (H : Hp) (Q : Bool → Hp → Prop), Inv X pins σ H s → t σ H Q →
    wpAny (model X.prog X.w) X.A (forIn ifs true fun c r => if r = true then do let ok ← isTrue c X.env (eval c X.env); pure (ForInStep.yield ok) else pure (ForInStep.yield r)) (TP X pins σ Q) X.xe s
def tYes : TT := fun _ H Q => Q true H
theorem pifs_nil {X : Cx} : PIfs X [] tYes := fun _ _ _ H _ I h => wpAny_tests_nil ⟨H, I, h⟩
theorem pifs_one {X : Cx} {c : Expr} {t : TT} (h : PT X c t) : PIfs X [c] t := fun pins s σ H Q I q => wpAny_tests_one (h pins s σ H Q I q)
/-- what the block sees of the frame: its own names unset, then the frame's slots j -/
def capt (own : Nat) (js : List Nat) (σ : St) : St := List.replicate own none ++ js.map fun j => (σ[j]?).getD none
/-- the block from its start on: W the word by the turn and a measure -/
def CompW (J : It) (own : Nat) (js : List Nat) (g : TG) (ti : TT) (te : TE) (σ : St) (H1 : Hp) (acc : Addr) (Q : VK) : Prop :=
  ∃ W : Nat → Nat → Hp → Prop, (∃ m, W 0 m (upd H1 acc (.lst []))) ∧ ∀ i m H2, W i m H2 →
    (J.stop i H2 ∧ Q (.ref acc) H2) ∨ (J.go i H2 ∧ ∀ x H3, J.yld i H2 x H3 → g x (capt own js σ) H3 fun σ4 H4 => ti σ4 H4 fun b H5 =>
      if b = true then te σ4 H5 fun y H6 => rAppend (.ref acc) [y] H6 fun _ H7 => ∃ m', m' < m ∧ W (i + 1) m' H7 else ∃ m', m' < m ∧ W (i + 1) m' H5)
def tComp (own : Nat) (js : List Nat) (wi : TI) (g : TG) (ti : TT) (te : TE) : TE := fun σ H Q => wi σ H fun J H1 => ∀ acc, H1 acc = none → CompW J own js g ti te σ H1 acc Q
end L2
namespace L2
open PySem PySem.Spec PyProof.Rows
theorem thnF {α : Type} {t : Sem α} {Q Q' : α → Shared → Prop} {M : Model} {A : Around} {E : Value → Shared → Prop} {s : Shared} (h : wpAny M A t Q (fun _ _ => False) s) (hQ : ∀ a s, Q a s → Q' a s) : wpAny M A t Q' E s := wpAny_mono h hQ fun _ _ f => f.elim
theorem relabel_kind {scope : Scope} {env : Env} {x : Str} : ∀ {names : List (Str × NameKind)}, ((names.map fun (n, k) => if (k == NameKind.free && env.scope.kind == .function && env.kindOf n == some .cell) then (n, NameKind.cell) else (n, k)).lookup x = some .cell ∨
    (names.map fun (n, k) => if (k == NameKind.free && env.scope.kind == .function && env.kindOf n == some .cell) then (n, NameKind.cell) else (n, k)).lookup x = some .free) → (∀ y ∈ names, y.2 ≠ .cell) → (x, NameKind.free) ∈ names
  | [], h, _ => by simp at h
  | (n, k) :: r, h, hc => by
    have hr : ∀ y ∈ r, y.2 ≠ .cell := fun y hy => hc y (List.mem_cons_of_mem _ hy)
    have h0 : k ≠ .cell := hc (n, k) List.mem_cons_self
    rw [List.map_cons, List.lookup_cons] at h
    by_cases hb : (k == NameKind.free && env.scope.kind == .function && env.kindOf n == some .cell) = true
    · rw [if_pos hb] at h
      dsimp only at h
      by_cases q : x == n
      · have hk : k = .free := by simp only [Bool.and_eq_true, beq_iff_eq] at hb; exact hb.1.1
        rw [beq_iff_eq.mp q, hk]
        exact List.mem_cons_self
      · have q' : (x == n) = false := by simpa using q
        rw [q'] at h
        exact List.mem_cons_of_mem _ (relabel_kind (scope := scope) h hr)
    · rw [if_neg hb] at h
      dsimp only at h
      by_cases q : x == n
      · rw [q] at h
        dsimp only at h
        have hk : k = .free := by
          rcases h with h | h
          · exact absurd (Option.some.inj h) h0
          · exact Option.some.inj h
        rw [beq_iff_eq.mp q, hk]
        exact List.mem_cons_self
      · have q' : (x == n) = false := by simpa using q
        rw [q'] at h
        exact List.mem_cons_of_mem _ (relabel_kind (scope := scope) h hr)
/-- the target stores into the block's own slots alone -/
def OwnG (own : Nat) (g : TG) : Prop := ∀ v σ H (Q : St → Hp → Prop), g v σ H Q → g v σ H fun σ' H' => Q σ' H' ∧ σ'.length = σ.length ∧ ∀ i, own ≤ i → σ'[i]? = σ[i]?
theorem ownG_name {i own : Nat} (h : i < own) : OwnG own (gName i) := fun v σ H Q q => ⟨q, List.length_set .., fun j hj => by rw [List.getElem?_set_ne (by omega)]⟩
theorem capt_length (own : Nat) (js : List Nat) (σ : St) : (capt own js σ).length = own + js.length := by simp [capt]
theorem capt_some {own : Nat} {js : List Nat} {σ : St} {i : Nat} {v : V} (h : (capt own js σ)[i]? = some (some v)) : own ≤ i ∧ ∃ j, js[i - own]? = some j ∧ σ[j]? = some (some v) := by
  unfold capt at h
  by_cases hi : i < own
  · rw [List.getElem?_append_left (by simpa using hi), List.getElem?_replicate, if_pos hi] at h
    cases h
  · rw [List.getElem?_append_right (by simpa using hi), List.length_replicate, List.getElem?_map] at h
    refine ⟨by omega, ?_⟩
    cases e : js[i - own]? with
    | none => rw [e] at h; cases h
    | some j =>
      rw [e] at h
      refine ⟨j, rfl, ?_⟩
      have h' : (σ[j]?).getD none = some v := Option.some.inj h
      cases e2 : σ[j]? with
      | none => rw [e2] at h'; cases h'
      | some o => rw [e2] at h'; exact congrArg some h'
theorem comp_core {X : Cx} {elt tg iter : Expr} {ifs : List Expr} {scope : Scope} {pos ps : Pos} {N : List Str} {own : Nat} {js : List Nat} {wi : TI} {g : TG} {ti : TT} {te : TE} (hc : X.calm = true)
    (hcell : ∀ y ∈ scope.names, y.2 ≠ .cell) (hkind : scope.kind = .function) (hnames : ∀ y ∈ scope.names, y.2 = .local → scope.names.lookup y.1 = some .local)
    (hfree : ∀ y ∈ scope.names, y.2 = .free → X.env.kindOf y.1 = some .cell ∨ X.env.kindOf y.1 = some .free) (hlen : N.length = own + js.length)
    (hcap : ∀ (i j : Nat) (x : Str), js[i]? = some j → N[own + i]? = some x → X.N[j]? = some x ∧ (x, NameKind.free) ∈ scope.names ∧ (X.env.kindOf x = some .cell ∨ X.env.kindOf x = some .free) ∧ ((relabel scope X.env).names.lookup x = some .cell ∨ (relabel scope X.env).names.lookup x = some .free))
    (hi : PI X tg iter wi) (hg : ∀ C s₀ H₀ ex, PG (X.comp scope C N s₀ H₀ ex fun _ _ => False) tg g) (ho : OwnG own g) (ht : ∀ C s₀ H₀ ex, PIfs (X.comp scope C N s₀ H₀ ex fun _ _ => False) ifs ti) (he : ∀ C s₀ H₀ ex, PE (X.comp scope C N s₀ H₀ ex fun _ _ => False) elt te)
    {pins : List (Addr × Obj)} {s : Shared} {σ : St} {H : Hp} {Q : VK} {use : Option (Value → Sem Unit)} {RQ : Value → Shared → Prop} (I : Inv X pins σ H s) (h : tComp own js wi g ti te σ H Q)
    (fin : ∀ (acc C : Addr) (H3 : Hp) (s4 : Shared) (m : Str → Option Value), Inv X pins σ H3 s4 → s4.heap.Ns C m → H3 C = none → C ≠ X.env.locals → C ∉ X.fs → X.s₀.heap.objs.size ≤ C → (∀ x c, X.env.cells.lookup x = some c → c ≠ C) → (∀ p ∈ X.pn ++ pins, p.1 ≠ C) →
      Q (.ref acc) H3 → compPost (model X.prog X.w) X.A X.xe use RQ (.ref acc) C (.ok .next) s4)
    (hs : ∀ x, foldedSetIterable iter X.env x = pure x := by intro _; rfl) :
    wpAny (model X.prog X.w) X.A (comprehension (.ListComp elt [⟨tg, iter, ifs, 0⟩] scope pos) scope X.env ps (newList []) false (eval iter X.env) use) RQ X.xe s := by
  have hcl : ∀ y ∈ scope.names, y.2 = .free → ∃ c, X.env.cells.lookup y.1 = some c := fun y hy hf => I.ok.has y.1 (hfree y hy hf)
  refine wpAny_comprehension_free (use := use) rfl hs (closure_is hcl) hkind hnames (thn (hi pins s σ H _ I h) fun v s1 h1 => thn h1 fun itv s2 h2 => ?_)
  obtain ⟨it, fp, tn, J, H2, e, I2, T, st2, f2, q⟩ := h2
  subst e
  have nf : H2 s2.heap.objs.size = none := I2.hok.fresh (Nat.le_refl _)
  obtain ⟨W, ⟨m0, w0⟩, turn⟩ := q s2.heap.objs.size nf
  refine wpAny_newObj_type (wpAny_newFunctionEnv hcell (by intro y hy; simp at hy) (fun h₁ hns₁ hsb₁ => ?_) hkind)
  dsimp only at hns₁ hsb₁ ⊢
  generalize hP2 : s2.heap.push { cls := .type "list", dict := none, data := .seq ([] : List Value).toArray } = P2 at hns₁ hsb₁ ⊢
  have hC : P2.objs.size = s2.heap.objs.size + 1 := by rw [← hP2, Heap.size_push]
  have hC1 : s2.heap.objs.size < P2.objs.size := by rw [hC]; exact Nat.lt_succ_self _
  have kp : ∀ b o, s2.heap.get? b = some o → h₁.get? b = some o := fun b o e => hsb₁.extBut b o (Nat.ne_of_lt (Nat.lt_trans (Heap.lt_size e) hC1)) (Heap.get?_push_of_some _ (hP2 ▸ Heap.get?_push_of_some _ e))
  have hacc : h₁.get? s2.heap.objs.size = some { cls := .type "list", dict := none, data := .seq ([] : List Value).toArray } := hsb₁.extBut _ _ (Nat.ne_of_lt hC1) (Heap.get?_push_of_some _ (hP2 ▸ Heap.get?_push_size _ rfl))
  have lkc : ∀ x c, (clOf X.env scope.names []).lookup x = some c → X.env.cells.lookup x = some c := fun x c e => clOf_lookup scope.names [] hcl (fun _ _ z => by simp at z) e
  have cne : ∀ x c, (clOf X.env scope.names []).lookup x = some c → c < s2.heap.objs.size ∧ H2 c = none := fun x c e => by
    obtain ⟨v, o, ho, hd⟩ := I2.cell x c (lkc x c e)
    exact ⟨Heap.lt_size ho, I2.freeC x c (lkc x c e)⟩
  have fpl : ∀ b ∈ fp, b < s2.heap.objs.size := fun b hb => by
    obtain ⟨o, e, _⟩ := T.obj 0 _ st2 b hb
    exact Heap.lt_size e
  -- the block's invariant, as it starts
  have hX : (X.comp scope P2.objs.size N s2 H2 fp fun _ _ => False).Ok := {
    mod := I.ok.mod
    kind := hkind
    glob := I.ok.glob
    blt := I.ok.blt
    above := Nat.le_of_lt hC1
    inj := fun x y c a b => I.ok.inj x y c (lkc x c a) (lkc y c b)
    has := fun x hx => clOf_has scope.names [] (relabel_kind (scope := scope) (env := X.env) hx hcell)
    cab := fun x c a _ => by cases (show false = true from a)
    hd := I.ok.hd
    frames := I.ok.frames
    stk := .inl rfl
    exf := fun b hb => ⟨Nat.ne_of_lt (Nat.lt_trans (fpl b hb) hC1), fun x c a => (f2 b hb).2.2.2.2.1 x c (lkc x c a)⟩
    bs := I2.bs
    bsz := Nat.le_trans I.ok.bsz I2.sz
    noex := fun b o e hb => by
      rcases (f2 b hb).2.2.2.1 with z | z
      · exact I.ok.noex b o e z
      · exact absurd (Nat.lt_of_lt_of_le (Nat.lt_of_lt_of_le (Heap.lt_size e) I.ok.bsz) z) (Nat.lt_irrefl _)
    exfs := fun b hb z => by
      rcases List.mem_cons.mp (I2.stkSub b z) with z | z
      · exact (f2 b hb).2.1 z
      · exact (f2 b hb).2.2.1 z
    funs := I2.stack
    frf := I2.stkFree }
  have I3 : ∀ tk, Inv (X.comp scope P2.objs.size N s2 H2 fp fun _ _ => False) [] (capt own js σ) (upd H2 s2.heap.objs.size (.lst [])) { s2 with heap := h₁, toks := tk } := fun tk => {
    ok := hX
    os := rfl
    bare := I2.bare
    base := Un.laid kp (Nat.le_refl _) nf
    loc := ⟨_, hns₁, fun i x v a b c => by
      obtain ⟨hio, j, hj, hv⟩ := capt_some b
      obtain ⟨h3, h4, h5, h6⟩ := hcap (i - own) j x hj (by rw [show own + (i - own) = i by omega]; exact a)
      obtain ⟨m, hn, hl⟩ := I2.loc
      obtain ⟨u, ru, lk⟩ := hl j x v h3 hv (.inr h5)
      refine ⟨u, ru, .inr ⟨h6, ?_⟩⟩
      rcases lk with ⟨z, _⟩ | ⟨_, c0, z1, z2⟩
      · rcases h5 with h5 | h5 <;> (rw [h5] at z; cases z)
      · obtain ⟨c1, hc1⟩ := clOf_has (env := X.env) scope.names [] h4
        have := lkc x c1 hc1
        rw [z1] at this
        cases this
        obtain ⟨o, ho, hd⟩ := z2
        exact ⟨c0, hc1, o, kp _ _ ho, hd⟩⟩
    cell := fun x c a => by
      obtain ⟨v, o, ho, hd⟩ := I2.cell x c (lkc x c a)
      exact ⟨v, o, kp _ _ ho, hd⟩
    free := by
      show upd H2 _ _ P2.objs.size = none
      rw [upd_ne (Nat.ne_of_gt hC1)]
      exact I2.hok.fresh (Nat.le_of_lt hC1)
    freeC := fun x c a => by
      rw [upd_ne (Nat.ne_of_lt (cne x c a).1)]
      exact (cne x c a).2
    pin := fun p hp => absurd (show p ∈ ([] : List (Addr × Obj)) from hp) (by simp)
    hok := I2.hok.laid kp (Nat.le_refl _) ⟨Nat.zero_le _, [], 0, .nil, hacc⟩
    len := by rw [capt_length]; exact hlen.symm }
  have fr0 : ∀ b ∈ fp, upd H2 s2.heap.objs.size (.lst []) b = none := fun b hb => by
    rw [upd_ne (Nat.ne_of_lt (fpl b hb))]
    exact (f2 b hb).1
  have st3 : tn 0 h₁ := T.keep 0 _ _ st2 fun b _ o e => kp b o e
  have stat : ∀ {H' : Hp}, (∀ b ∈ fp, H' b = none) → ∀ b ∈ fp, FpOk (X.comp scope P2.objs.size N s2 H2 fp fun _ _ => False) [] H' b := fun hn b hb =>
    ⟨hn b hb, (hX.exf b hb).1, hX.exfs b hb, .inl hb, fun x c a => (hX.exf b hb).2 x c a, fun p hp => absurd (show p ∈ ([] : List (Addr × Obj)) from hp) (by simp)⟩
  have loop : ∀ s₃ : Shared, s₃ = { s2 with heap := h₁, toks := s2.toks + ([] : List (Str × Value)).length } →
      codeAny (model X.prog X.w) X.A (.compLoop (.ListComp elt [⟨tg, iter, ifs, 0⟩] scope pos) 0 (.ref it) (.ref s2.heap.objs.size) (compEnvC scope (clOf X.env scope.names []) P2.objs.size X.env))
        (compPost (model X.prog X.w) X.A X.xe use RQ (.ref s2.heap.objs.size) P2.objs.size) s₃ := by
    rintro s₃ rfl
    refine comp_loop (fun n s' => ∃ i H', Inv (X.comp scope P2.objs.size N s2 H2 fp fun _ _ => False) [] (capt own js σ) H' s' ∧ tn i s'.heap ∧ (∀ b ∈ fp, H' b = none) ∧ W i n H') ?_ m0 ⟨0, _, I3 _, st3, fr0, w0⟩
    rintro n s3 ⟨i, H3, J3, t3, fr3, w3⟩
    rcases turn i n H3 w3 with ⟨stop, qd⟩ | ⟨go, step⟩
    · refine thnF (T.done (X.comp scope P2.objs.size N s2 H2 fp fun _ _ => False) rfl rfl rfl hc i [] s3 _ H3 _ J3 (stat fr3) t3 stop) fun r s4 ⟨hr, J4⟩ => ?_
      subst hr
      obtain ⟨m, hn, _⟩ := J4.loc
      have B : Un (frs X.stack) fp H2 H3 s2.heap s4.heap := J4.base
      have I5 : Inv X pins σ H3 s4 := I2.call' J4.os B J4.hok J4.bare fun b hb => by
        obtain ⟨a1, a2, a3, a4, a5, a6⟩ := f2 b hb
        exact ⟨a4, a2, a5, a6⟩
      have hp := I2.fpOk (H' := H3) (b := P2.objs.size) (Nat.le_of_lt hC1) J4.free
      obtain ⟨a1, a2, a3, a4, a5, a6⟩ := hp
      exact fin s2.heap.objs.size P2.objs.size H3 s4 m I5 hn a1 a2 a3 (Nat.le_trans I2.sz (Nat.le_of_lt hC1)) a5 a6 qd
    · refine thnF (T.item (X.comp scope P2.objs.size N s2 H2 fp fun _ _ => False) rfl rfl rfl hc i [] s3 _ H3 _ J3 (stat fr3) t3 go) fun r s4 ⟨u, hr, h4⟩ => ?_
      subst hr
      refine thnF h4 fun _ s5 ⟨x, H5, J5, r5, y5, t5, fr5⟩ => ?_
      have J5' := J5.pinned (stat fr5) (T.obj _ _ t5)
      refine thnF (hg _ _ _ _ _ s5 _ H5 x u _ J5' r5 (ho _ _ _ _ (step x H5 y5))) fun _ s6 ⟨σ6, H6, J6, q6, hl6, ho6⟩ => ?_
      have again : ∀ {s7 : Shared} {H7 : Hp}, Inv (X.comp scope P2.objs.size N s2 H2 fp fun _ _ => False) ([] ++ pinsAt fp s5.heap) σ6 H7 s7 → (∃ m', m' < n ∧ W (i + 1) m' H7) →
          ∃ m, m < n ∧ ∃ i H', Inv (X.comp scope P2.objs.size N s2 H2 fp fun _ _ => False) [] (capt own js σ) H' s7 ∧ tn i s7.heap ∧ (∀ b ∈ fp, H' b = none) ∧ W i m H' := fun {s7 H7} J7 z => by
        obtain ⟨m', hm, w7⟩ := z
        refine ⟨m', hm, i + 1, H7, J7.unpinned.weak (by rw [hl6]) (fun k v z => ?_), T.keep _ _ _ t5 fun b hb o e => (J7.pin (b, o) (List.mem_append_right _ (List.mem_append_right _ (mem_pinsAt hb e)))).1, fun b hb => ?_, w7⟩
        · rw [ho6 k (capt_some z).1]
          exact z
        · obtain ⟨o, e, d⟩ := T.obj _ _ t5 b hb
          exact (J7.pin (b, o) (List.mem_append_right _ (List.mem_append_right _ (mem_pinsAt hb e)))).2.1
      refine thnF (ht _ _ _ _ _ s6 σ6 H6 _ J6 q6) fun ok s7 ⟨H7, J7, q7⟩ => ?_
      cases ok with
      | false => exact again J7 q7
      | true =>
        refine thnF (he _ _ _ _ _ s7 σ6 H7 _ J7 q7) fun y s8 ⟨yv, H8, J8, r8, q8⟩ => ?_
        exact thnF (mt_append _ s8 σ6 H8 (.ref s2.heap.objs.size) [yv] (.ref s2.heap.objs.size) [y] _ J8 rfl (.cons r8 .nil) q8) fun _ s9 ⟨_, H9, J9, _, q9⟩ => again J9 q9
  exact codeAny_compStart_list (loop _ rfl) (T.self X.A 0 _ _ _ st3 (loop _ rfl))

/-- [elt for tg in iter if ..] -/
theorem pe_comp {X : Cx} {elt tg iter : Expr} {ifs : List Expr} {scope : Scope} {pos : Pos} {N : List Str} {own : Nat} {js : List Nat} {wi : TI} {g : TG} {ti : TT} {te : TE} (hc : X.calm = true)
    (hcell : ∀ y ∈ scope.names, y.2 ≠ .cell) (hkind : scope.kind = .function) (hnames : ∀ y ∈ scope.names, y.2 = .local → scope.names.lookup y.1 = some .local)
    (hfree : ∀ y ∈ scope.names, y.2 = .free → X.env.kindOf y.1 = some .cell ∨ X.env.kindOf y.1 = some .free) (hlen : N.length = own + js.length)
    (hcap : ∀ (i j : Nat) (x : Str), js[i]? = some j → N[own + i]? = some x → X.N[j]? = some x ∧ (x, NameKind.free) ∈ scope.names ∧ (X.env.kindOf x = some .cell ∨ X.env.kindOf x = some .free) ∧ ((relabel scope X.env).names.lookup x = some .cell ∨ (relabel scope X.env).names.lookup x = some .free))
    (hi : PI X tg iter wi) (hg : ∀ C s₀ H₀ ex, PG (X.comp scope C N s₀ H₀ ex fun _ _ => False) tg g) (ho : OwnG own g) (ht : ∀ C s₀ H₀ ex, PIfs (X.comp scope C N s₀ H₀ ex fun _ _ => False) ifs ti) (he : ∀ C s₀ H₀ ex, PE (X.comp scope C N s₀ H₀ ex fun _ _ => False) elt te)
    (hs : ∀ x, foldedSetIterable iter X.env x = pure x := by intro _; rfl) : PE X (.ListComp elt [⟨tg, iter, ifs, 0⟩] scope pos) (tComp own js wi g ti te) := by
  intro pins s σ H Q I h
  rw [eval_ListComp]
  refine comp_core hc hcell hkind hnames hfree hlen hcap hi hg ho ht he I h (use := none) (fun acc C H3 s4 m I5 hn c1 c2 c3 c4 c5 c6 q => ?_) hs
  refine ⟨m, hn, fun h' sb => ⟨.ref acc, H3, ?_, rfl, q⟩⟩
  exact I5.turned (t' := s4.toks) (it := C) (fun b o hb e => (sb.2 b hb).trans e) c1 c2 (.inr c4) c5 c6
/-- name = [elt for tg in iter if ..] -/
theorem ps_setc {X : Cx} {i : Nat} {y : Str} {py spos : Pos} {elt tg iter : Expr} {ifs : List Expr} {scope : Scope} {pos : Pos} {N : List Str} {own : Nat} {js : List Nat} {wi : TI} {g : TG} {ti : TT} {te : TE} (hN : X.N.Nodup) (hi' : X.N[i]? = some y) (hy : Loc X.env.scope y) (hf : X.fn y = true ∨ X.env.scope.names.lookup y = some .local)
    (hc : X.calm = true)
    (hcell : ∀ y ∈ scope.names, y.2 ≠ .cell) (hkind : scope.kind = .function) (hnames : ∀ y ∈ scope.names, y.2 = .local → scope.names.lookup y.1 = some .local)
    (hfree : ∀ y ∈ scope.names, y.2 = .free → X.env.kindOf y.1 = some .cell ∨ X.env.kindOf y.1 = some .free) (hlen : N.length = own + js.length)
    (hcap : ∀ (i j : Nat) (x : Str), js[i]? = some j → N[own + i]? = some x → X.N[j]? = some x ∧ (x, NameKind.free) ∈ scope.names ∧ (X.env.kindOf x = some .cell ∨ X.env.kindOf x = some .free) ∧ ((relabel scope X.env).names.lookup x = some .cell ∨ (relabel scope X.env).names.lookup x = some .free))
    (hi : PI X tg iter wi) (hg : ∀ C s₀ H₀ ex, PG (X.comp scope C N s₀ H₀ ex fun _ _ => False) tg g) (ho : OwnG own g) (ht : ∀ C s₀ H₀ ex, PIfs (X.comp scope C N s₀ H₀ ex fun _ _ => False) ifs ti) (he : ∀ C s₀ H₀ ex, PE (X.comp scope C N s₀ H₀ ex fun _ _ => False) elt te)
    (hsw : swapsWith (.ListComp elt [⟨tg, iter, ifs, 0⟩] scope pos) (some (.Name y py)) spos.line X.env = pure true := by rfl)
    (hs : ∀ x, foldedSetIterable iter X.env x = pure x := by intro _; rfl) : PS X (.Assign [.Name y py] (.ListComp elt [⟨tg, iter, ifs, 0⟩] scope pos) spos) (tAsg (tComp own js wi g ti te) (gName i)) := by
  intro pins s σ H D I h
  rw [exec_Assign_Name_used _ _ _ _ hsw]
  refine wpAny_bind (wpAny_standAt (wpAny_bind ?_))
  show wpAny _ X.A (do let _ ← comprehension (.ListComp elt [⟨tg, iter, ifs, 0⟩] scope pos) scope X.env _ (newList []) false (eval iter X.env) (some (assign (.Name y py) X.env))) _ _ s
  refine wpAny_bind (wpAny_mono (comp_core hc hcell hkind hnames hfree hlen hcap hi hg ho ht he I h (use := some (assign (.Name y py) X.env)) (RQ := fun _ s' => SP X pins D .next s') (fun acc C H3 s4 m I5 hn c1 c2 c3 c4 c5 c6 q => ?_) hs) (fun _ s' hq => wpAny_pure (wpAny_pure hq)) fun _ _ e => e)
  show wpAny _ X.A (assign (.Name y py) X.env (.ref acc)) _ _ _
  obtain ⟨o, es, ep, ho', hd, hr⟩ := hn
  have I6 : Inv X (pins ++ [(C, o)]) σ H3 s4 := I5.pins_of fun p hp => by
    rcases List.mem_append.mp hp with z | z
    · exact I5.pin p (List.mem_append_right _ z)
    · rw [List.mem_singleton.mp z]
      exact ⟨ho', c1, c2, c3, fun v z => by rw [hd] at z; cases z⟩
  refine wpAny_assign_Name (store_ok I6 hN hi' hy (v := .ref acc) rfl (fun s' I7 => ?_) hf)
  have hp := I7.pin (C, o) (List.mem_append_right _ (List.mem_append_right _ (by simp)))
  refine ⟨m, ⟨o, es, ep, hp.1, hd, hr⟩, fun h' sb => ⟨_, H3, ?_, q⟩⟩
  exact I7.unpinned.turned (t' := s'.toks) (it := C) (fun b o hb e => (sb.2 b hb).trans e) c1 c2 (.inr c4) c5 c6
end L2
/-! ### the comprehension's rules with one check over the written text -/
namespace L2
open PySem PySem.Spec PyProof.Rows
def compOk (XN : List Str) (sc scope : Scope) (own : Nat) (js : List Nat) (N : List Str) : Bool :=
  (scope.names.all fun y => decide (y.2 ≠ .cell) && (decide (y.2 ≠ .local) || decide (scope.names.lookup y.1 = some .local)) && (decide (y.2 ≠ .free) || decide (sc.names.lookup y.1 = some .cell) || decide (sc.names.lookup y.1 = some .free))) &&
    decide (scope.kind = .function) && decide (N.length = own + js.length) &&
    (List.range js.length).all fun i => match js[i]?, N[own + i]? with
      | some j, some x => decide (XN[j]? = some x) && decide (scope.names.lookup x = some .free) && (decide (sc.names.lookup x = some .cell) || decide (sc.names.lookup x = some .free))
      | _, _ => false
theorem lookup_relabel_free {env : Env} : ∀ {names : List (Str × NameKind)} {x : Str}, names.lookup x = some .free →
    (names.map fun (n, k) => if (k == NameKind.free && env.scope.kind == .function && env.kindOf n == some .cell) then (n, NameKind.cell) else (n, k)).lookup x = some .cell ∨
    (names.map fun (n, k) => if (k == NameKind.free && env.scope.kind == .function && env.kindOf n == some .cell) then (n, NameKind.cell) else (n, k)).lookup x = some .free
  | [], _, h => by simp at h
  | (n, k) :: r, x, h => by
    have ih := @lookup_relabel_free env r x
    rw [List.map_cons, List.lookup_cons]
    rw [List.lookup_cons] at h
    by_cases hc : (k == NameKind.free && env.scope.kind == .function && env.kindOf n == some .cell) = true
    · rw [if_pos hc]
      dsimp only
      cases hx : x == n with
      | true => exact .inl rfl
      | false =>
        rw [hx] at h
        exact ih h
    · rw [if_neg hc]
      dsimp only
      cases hx : x == n with
      | true =>
        rw [hx] at h
        exact .inr h
      | false =>
        rw [hx] at h
        exact ih h
structure CompOk (XN : List Str) (sc scope : Scope) (own : Nat) (js : List Nat) (N : List Str) : Prop where
  cell : ∀ y ∈ scope.names, y.2 ≠ .cell
  names : ∀ y ∈ scope.names, y.2 = .local → scope.names.lookup y.1 = some .local
  free : ∀ y ∈ scope.names, y.2 = .free → sc.names.lookup y.1 = some .cell ∨ sc.names.lookup y.1 = some .free
  kind : scope.kind = .function
  len : N.length = own + js.length
  cap : ∀ (i j : Nat) (x : Str), js[i]? = some j → N[own + i]? = some x → XN[j]? = some x ∧ scope.names.lookup x = some .free ∧ (sc.names.lookup x = some .cell ∨ sc.names.lookup x = some .free)
theorem compOk_of {XN : List Str} {sc scope : Scope} {own : Nat} {js : List Nat} {N : List Str} (h : compOk XN sc scope own js N = true) : CompOk XN sc scope own js N := by
  unfold compOk at h
  rw [Bool.and_eq_true, Bool.and_eq_true, Bool.and_eq_true] at h
  obtain ⟨⟨⟨h1, h2⟩, h3⟩, h4⟩ := h
  rw [List.all_eq_true] at h1 h4
  refine ⟨fun y hy => ?_, fun y hy e => ?_, fun y hy e => ?_, of_decide_eq_true h2, of_decide_eq_true h3, fun i j x a b => ?_⟩
  · have := h1 y hy
    rw [Bool.and_eq_true, Bool.and_eq_true] at this
    exact of_decide_eq_true this.1.1
  · have := h1 y hy
    rw [Bool.and_eq_true, Bool.and_eq_true, Bool.or_eq_true] at this
    rcases this.1.2 with z | z
    · exact absurd e (of_decide_eq_true z)
    · exact of_decide_eq_true z
  · have := h1 y hy
    rw [Bool.and_eq_true, Bool.and_eq_true, Bool.or_eq_true, Bool.or_eq_true, Bool.or_eq_true] at this
    rcases this.2 with (z | z) | z
    · exact absurd e (of_decide_eq_true z)
    · exact .inl (of_decide_eq_true z)
    · exact .inr (of_decide_eq_true z)
  · have hi : i < js.length := (List.getElem?_eq_some_iff.mp a).1
    have := h4 i (List.mem_range.mpr hi)
    rw [a, b] at this
    dsimp only at this
    rw [Bool.and_eq_true, Bool.and_eq_true, Bool.or_eq_true] at this
    exact ⟨of_decide_eq_true this.1.1, of_decide_eq_true this.1.2, this.2.imp of_decide_eq_true of_decide_eq_true⟩
section
variable {X : Cx} {XN : List Str} {sc scope : Scope} {elt tg iter : Expr} {ifs : List Expr} {pos : Pos} {N : List Str} {own : Nat} {js : List Nat} {wi : TI} {g : TG} {ti : TT} {te : TE}
theorem pe_compB (hc : X.calm = true) (ok : compOk XN sc scope own js N = true) (hsc : X.env.scope = sc) (hXN : X.N = XN) (hi : PI X tg iter wi) (hg : ∀ C s₀ H₀ ex, PG (X.comp scope C N s₀ H₀ ex fun _ _ => False) tg g) (ho : OwnG own g)
    (ht : ∀ C s₀ H₀ ex, PIfs (X.comp scope C N s₀ H₀ ex fun _ _ => False) ifs ti) (he : ∀ C s₀ H₀ ex, PE (X.comp scope C N s₀ H₀ ex fun _ _ => False) elt te)
    (hs : ∀ x, foldedSetIterable iter X.env x = pure x := by intro _; rfl) : PE X (.ListComp elt [⟨tg, iter, ifs, 0⟩] scope pos) (tComp own js wi g ti te) := by
  obtain ⟨h1, h2, h3, h4, h5, h6⟩ := compOk_of ok
  subst hsc hXN
  refine pe_comp hc h1 h4 h2 h3 h5 (fun i j x a b => ?_) hi hg ho ht he hs
  obtain ⟨z1, z2, z3⟩ := h6 i j x a b
  exact ⟨z1, PySem.mem_of_lookup z2, z3, lookup_relabel_free z2⟩
theorem ps_setcB {i : Nat} {y : Str} {py spos : Pos} (hN : X.N.Nodup) (hi' : X.N[i]? = some y) (hy : Loc X.env.scope y) (hf : X.fn y = true ∨ X.env.scope.names.lookup y = some .local) (hc : X.calm = true) (ok : compOk XN sc scope own js N = true) (hsc : X.env.scope = sc) (hXN : X.N = XN) (hi : PI X tg iter wi)
    (hg : ∀ C s₀ H₀ ex, PG (X.comp scope C N s₀ H₀ ex fun _ _ => False) tg g) (ho : OwnG own g)
    (ht : ∀ C s₀ H₀ ex, PIfs (X.comp scope C N s₀ H₀ ex fun _ _ => False) ifs ti) (he : ∀ C s₀ H₀ ex, PE (X.comp scope C N s₀ H₀ ex fun _ _ => False) elt te)
    (hsw : swapsWith (.ListComp elt [⟨tg, iter, ifs, 0⟩] scope pos) (some (.Name y py)) spos.line X.env = pure true := by rfl)
    (hs : ∀ x, foldedSetIterable iter X.env x = pure x := by intro _; rfl) : PS X (.Assign [.Name y py] (.ListComp elt [⟨tg, iter, ifs, 0⟩] scope pos) spos) (tAsg (tComp own js wi g ti te) (gName i)) := by
  obtain ⟨h1, h2, h3, h4, h5, h6⟩ := compOk_of ok
  subst hsc hXN
  refine ps_setc hN hi' hy hf hc h1 h4 h2 h3 h5 (fun i j x a b => ?_) hi hg ho ht he hsw hs
  obtain ⟨z1, z2, z3⟩ := h6 i j x a b
  exact ⟨z1, PySem.mem_of_lookup z2, z3, lookup_relabel_free z2⟩
end
/-- over range(lo, lo + n): the word of the turn and of the list so far -/
theorem comp_range {lo : Int} {n : Nat} {own : Nat} {js : List Nat} {g : TG} {ti : TT} {te : TE} {σ : St} {H1 : Hp} {acc : Addr} {Q : VK} (Pv : Nat → Hp → Prop) (h0 : Pv 0 (upd H1 acc (.lst [])))
    (hs : ∀ i H2, i < n → Pv i H2 → g (.int (lo + i)) (capt own js σ) H2 fun σ4 H4 => ti σ4 H4 fun b H5 => if b = true then te σ4 H5 fun y H6 => rAppend (.ref acc) [y] H6 fun _ H7 => Pv (i + 1) H7 else Pv (i + 1) H5) (hd : ∀ H2, Pv n H2 → Q (.ref acc) H2)
    (mono : ∀ σ H (R R' : St → Hp → Prop) x, (∀ σ' H', R σ' H' → R' σ' H') → g x σ H R → g x σ H R') (monoT : ∀ σ H (R R' : Bool → Hp → Prop), (∀ b H', R b H' → R' b H') → ti σ H R → ti σ H R') (monoE : ∀ σ H (R R' : VK), (∀ v H', R v H' → R' v H') → te σ H R → te σ H R') :
    CompW (Itr lo n) own js g ti te σ H1 acc Q := by
  refine ⟨fun i m H2 => m = n - i ∧ i ≤ n ∧ Pv i H2, ⟨n, by simp, Nat.zero_le _, h0⟩, ?_⟩
  rintro i m H2 ⟨rfl, hi, p⟩
  by_cases hlt : i < n
  · refine .inr ⟨hlt, fun x H3 y => ?_⟩
    obtain ⟨e1, e2⟩ := y
    subst e1 e2
    refine mono _ _ _ _ _ (fun σ4 H4 q => monoT _ _ _ _ (fun b H5 q => ?_) q) (hs i _ hlt p)
    cases b with
    | true =>
      refine monoE _ _ _ _ (fun v H6 q => ?_) q
      obtain ⟨l, xs, y, a1, a2, a3, a4, a5⟩ := q
      exact ⟨l, xs, y, a1, a2, a3, a4, n - (i + 1), by omega, rfl, hlt, a5⟩
    | false => exact ⟨n - (i + 1), by omega, rfl, hlt, q⟩
  · have e : i = n := by omega
    subst e
    exact .inl ⟨Nat.le_refl _, hd H2 p⟩
/-- over a list that stays -/
theorem comp_list {K : PySem.W.Frag} {a : Addr} {xs : List V} {own : Nat} {js : List Nat} {g : TG} {ti : TT} {te : TE} {σ : St} {H1 : Hp} {acc : Addr} {Q : VK} (Pv : Nat → Hp → Prop) (h0 : Pv 0 (upd H1 acc (.lst []))) (hl : ∀ i H2, i ≤ xs.length → Pv i H2 → SqL K H2 a xs)
    (hs : ∀ i x H2, xs[i]? = some x → Pv i H2 → g x (capt own js σ) H2 fun σ4 H4 => ti σ4 H4 fun b H5 => if b = true then te σ4 H5 fun y H6 => rAppend (.ref acc) [y] H6 fun _ H7 => Pv (i + 1) H7 else Pv (i + 1) H5) (hd : ∀ H2, Pv xs.length H2 → Q (.ref acc) H2)
    (mono : ∀ σ H (R R' : St → Hp → Prop) x, (∀ σ' H', R σ' H' → R' σ' H') → g x σ H R → g x σ H R') (monoT : ∀ σ H (R R' : Bool → Hp → Prop), (∀ b H', R b H' → R' b H') → ti σ H R → ti σ H R') (monoE : ∀ σ H (R R' : VK), (∀ v H', R v H' → R' v H') → te σ H R → te σ H R') :
    CompW (Itl K a) own js g ti te σ H1 acc Q := by
  refine ⟨fun i m H2 => m = xs.length - i ∧ i ≤ xs.length ∧ Pv i H2, ⟨xs.length, by simp, Nat.zero_le _, h0⟩, ?_⟩
  rintro i m H2 ⟨rfl, hi, p⟩
  have q := hl i H2 hi p
  by_cases hlt : i < xs.length
  · refine .inr ⟨⟨xs, xs[i], q, by simp [hlt]⟩, fun x H3 y => ?_⟩
    obtain ⟨e1, y⟩ := y
    subst e1
    refine mono _ _ _ _ _ (fun σ4 H4 q => monoT _ _ _ _ (fun b H5 q => ?_) q) (hs i x _ (y xs q) p)
    cases b with
    | true =>
      refine monoE _ _ _ _ (fun v H6 q => ?_) q
      obtain ⟨l, xs, y, a1, a2, a3, a4, a5⟩ := q
      exact ⟨l, xs, y, a1, a2, a3, a4, _, by omega, rfl, hlt, a5⟩
    | false => exact ⟨_, by omega, rfl, hlt, q⟩
  · have e : i = xs.length := by omega
    subst e
    exact .inl ⟨⟨xs, q, Nat.le_refl _⟩, hd H2 p⟩
theorem mono_name {i : Nat} : ∀ (σ : St) (H : Hp) (R R' : St → Hp → Prop) (x : V), (∀ σ' H', R σ' H' → R' σ' H') → gName i x σ H R → gName i x σ H R' := fun _ _ _ _ _ k h => k _ _ h
theorem yes_ {A B : Hp → Prop} {σ : St} {H : Hp} (h : A H) : tYes σ H fun b H5 => if b = true then A H5 else B H5 := by
  show if true = true then A H else B H
  rw [if_pos rfl]
  exact h
theorem yesN {A B : St → Hp → Prop} {i : Nat} {x : V} {σ : St} {H : Hp} (h : A (σ.set i (some x)) H) : gName i x σ H fun σ4 H4 => tYes σ4 H4 fun b H5 => if b = true then A σ4 H5 else B σ4 H5 := by
  show if true = true then A (σ.set i (some x)) H else B (σ.set i (some x)) H
  rw [if_pos rfl]
  exact h
theorem ixN_nat {n i : Nat} (h : i < n) : ixN n (i : Int) = some i := by
  unfold ixN
  rw [if_pos (by omega), if_pos (by omega), Int.toNat_natCast]
theorem mono_yes : ∀ (σ : St) (H : Hp) (R R' : Bool → Hp → Prop), (∀ b H', R b H' → R' b H') → tYes σ H R → tYes σ H R' := fun _ _ _ _ k h => k _ _ h
end L2
/-! ### rules that name the written part, for a comprehension's block -/
namespace L2
open PySem PySem.Spec PyProof.Rows
section
variable {X : Cx} {K : PySem.W.Frag}
end
end L2
/-! ### ==, != of ints, lists, tuples at any depth; sum; // by larger numbers -/
namespace L2
open PySem PySem.Spec PyProof.Rows
/-- what == tells, d deep -/
inductive EqR (K : PySem.W.Frag) (H : Hp) : Nat → V → V → Bool → Prop where
  | int (d : Nat) (i j : Int) : EqR K H d (.int i) (.int j) (decide (i = j))
  | lists {d : Nat} {a b : Addr} {xs ys : List V} (es : Nat → Bool) (h1 : SqL K H a xs) (h2 : SqL K H b ys) (hl : xs.length = ys.length) (he : ∀ (j : Nat) x y, xs[j]? = some x → ys[j]? = some y → EqR K H d x y (es j)) : EqR K H (d + 1) (.ref a) (.ref b) ((List.range xs.length).all es)
  | lens {d : Nat} {a b : Addr} {xs ys : List V} (h1 : SqL K H a xs) (h2 : SqL K H b ys) (hl : xs.length ≠ ys.length) : EqR K H (d + 1) (.ref a) (.ref b) false
  | tuples {d : Nat} {a b : Addr} {xs ys : List V} (es : Nat → Bool) (h1 : SqT K H a xs) (h2 : SqT K H b ys) (he : ∀ (j : Nat) x y, xs[j]? = some x → ys[j]? = some y → EqR K H d x y (es j)) : EqR K H (d + 1) (.ref a) (.ref b) ((List.range (min xs.length ys.length)).all es && xs.length == ys.length)
section
variable {X : Cx} {pins : List (Addr × Obj)} {σ : St} {H : Hp} {s : Shared}
theorem EqR.same (I : Inv X pins σ H s) {d : Nat} {x y : V} {e : Bool} (h : EqR X.K H d x y e) : x = y → e = true := by
  induction h with
  | int d i j => intro q; cases q; simp
  | lists es h1 h2 hl he ih =>
    intro q
    cases q
    have z := I.list_inj h1 h2
    subst z
    rw [List.all_eq_true]
    intro j hj
    rw [List.mem_range] at hj
    have hx := List.getElem?_eq_getElem hj
    exact ih j _ _ hx hx rfl
  | lens h1 h2 hl =>
    intro q
    cases q
    exact absurd (congrArg List.length (I.list_inj h1 h2)) hl
  | @tuples d a b xs ys es h1 h2 he ih =>
    intro q
    cases q
    have z := I.tuple_inj h1 h2
    subst z
    rw [Bool.and_eq_true]
    refine ⟨?_, by simp⟩
    rw [List.all_eq_true]
    intro j hj
    rw [List.mem_range, Nat.min_self] at hj
    have hx := List.getElem?_eq_getElem hj
    exact ih j _ _ hx hx rfl
theorem units_in1 (A : Around) : A.in1.units = A.units + 1 := rfl
theorem EqR.at_ (I : Inv X pins σ H s) {d : Nat} {x y : V} {e : Bool} (h : EqR X.K H d x y e) : ∀ {A : Around} {u v : Value}, A.units + d < cLine → RelV x u → RelV y v → SeqAt.RcAt A s u v e ∧ SeqAt.RcNeAt A s u v (!e) ∧ SeqAt.EqAt A s u v e := by
  induction h with
  | int d i j =>
    intro A u v hu ru rv
    obtain ⟨t, rfl⟩ := ru
    obtain ⟨t', rfl⟩ := rv
    have e : decide (i = j) = (i == j) := by rw [Bool.beq_eq_decide_eq]
    rw [e]
    exact ⟨SeqAt.RcAt.int_int i t j t', SeqAt.RcNeAt.int_int i t j t', SeqAt.EqAt.int_int i t j t'⟩
  | @lists d a b xs ys es h1 h2 hl he ih =>
    intro A u v hu ru rv
    obtain rfl : u = Value.ref a := ru
    obtain rfl : v = Value.ref b := rv
    obtain ⟨is, r1, p1, z1⟩ := I.list h1
    obtain ⟨js, r2, p2, z2⟩ := I.list h2
    have l1 := r1.length
    have l2 := r2.length
    have ln : xs.length = is.toArray.size := by simpa using l1
    have sz : is.toArray.size = js.toArray.size := by simp only [List.size_toArray]; omega
    have it : ∀ j (q1 : j < is.toArray.size) (q2 : j < js.toArray.size), SeqAt.EqAt A.in1 s is.toArray[j] js.toArray[j] (es j) := fun j q1 q2 => by
      simp only [List.size_toArray] at q1 q2
      have hx : xs[j]? = some xs[j] := List.getElem?_eq_getElem (by omega)
      have hy : ys[j]? = some ys[j] := List.getElem?_eq_getElem (by omega)
      obtain ⟨u1, e1, ru1⟩ := r1.get hx
      obtain ⟨u2, e2, ru2⟩ := r2.get hy
      have g1 : is.toArray[j] = u1 := by
        rw [List.getElem?_eq_getElem q1] at e1
        simpa using Option.some.inj e1
      have g2 : js.toArray[j] = u2 := by
        rw [List.getElem?_eq_getElem q2] at e2
        simpa using Option.some.inj e2
      rw [g1, g2]
      exact (ih j _ _ hx hy (by rw [units_in1]; omega) ru1 ru2).2.2
    rw [ln]
    have R := SeqAt.RcAt.lists (A := A) p1.isList p2.isList sz (by omega) it
    refine ⟨R, SeqAt.RcNeAt.lists p1.isList p2.isList sz (by omega) it, ?_⟩
    by_cases q : a = b
    · subst q
      have := (EqR.lists es h1 h2 hl he).same I rfl
      rw [ln] at this
      rw [this]
      exact SeqAt.EqAt.same _
    · exact SeqAt.EqAt.of_refs q R
  | @lens d a b xs ys h1 h2 hl =>
    intro A u v hu ru rv
    obtain rfl : u = Value.ref a := ru
    obtain rfl : v = Value.ref b := rv
    obtain ⟨is, r1, p1, z1⟩ := I.list h1
    obtain ⟨js, r2, p2, z2⟩ := I.list h2
    have l1 := r1.length
    have l2 := r2.length
    have sz : (is.toArray.size != js.toArray.size) = true := by
      simp only [List.size_toArray, bne_iff_ne, ne_eq]
      omega
    have R := SeqAt.RcAt.lists_lengths (A := A) p1.isList p2.isList sz (by omega)
    refine ⟨R, SeqAt.RcNeAt.lists_lengths p1.isList p2.isList sz (by omega), ?_⟩
    by_cases q : a = b
    · subst q
      exact absurd (congrArg List.length (I.list_inj h1 h2)) hl
    · exact SeqAt.EqAt.of_refs q R
  | @tuples d a b xs ys es h1 h2 he ih =>
    intro A u v hu ru rv
    obtain rfl : u = Value.ref a := ru
    obtain rfl : v = Value.ref b := rv
    obtain ⟨is, r1, p1, z1⟩ := I.tuple h1
    obtain ⟨js, r2, p2, z2⟩ := I.tuple h2
    have l1 := r1.length
    have l2 := r2.length
    have ln : xs.length = is.toArray.size := by simpa using l1
    have ln2 : ys.length = js.toArray.size := by simpa using l2
    have it : ∀ j (q1 : j < is.toArray.size) (q2 : j < js.toArray.size), SeqAt.EqAt A.in1 s is.toArray[j] js.toArray[j] (es j) := fun j q1 q2 => by
      simp only [List.size_toArray] at q1 q2
      have hx : xs[j]? = some xs[j] := List.getElem?_eq_getElem (by omega)
      have hy : ys[j]? = some ys[j] := List.getElem?_eq_getElem (by omega)
      obtain ⟨u1, e1, ru1⟩ := r1.get hx
      obtain ⟨u2, e2, ru2⟩ := r2.get hy
      have g1 : is.toArray[j] = u1 := by
        rw [List.getElem?_eq_getElem q1] at e1
        simpa using Option.some.inj e1
      have g2 : js.toArray[j] = u2 := by
        rw [List.getElem?_eq_getElem q2] at e2
        simpa using Option.some.inj e2
      rw [g1, g2]
      exact (ih j _ _ hx hy (by rw [units_in1]; omega) ru1 ru2).2.2
    rw [ln, ln2]
    have R := SeqAt.RcAt.tuples (A := A) (show s.heap.IsTuple a is.toArray from p1) (show s.heap.IsTuple b js.toArray from p2) (by omega) it
    refine ⟨R, SeqAt.RcNeAt.tuples (show s.heap.IsTuple a is.toArray from p1) (show s.heap.IsTuple b js.toArray from p2) (by omega) it, ?_⟩
    by_cases q : a = b
    · subst q
      have := (EqR.tuples es h1 h2 he).same I rfl
      rw [ln, ln2] at this
      rw [this]
      exact SeqAt.EqAt.same _
    · exact SeqAt.EqAt.of_refs q R
/-- == and != of lists and tuples -/
def rEqS (K : PySem.W.Frag) (neg : Bool) : R2 := fun x y H Q => ∃ d e, EqR K H d x y e ∧ d ≤ 8 ∧ Q (.bl (if neg then !e else e)) H
theorem op_neS {k : Nat} (hr : Room k X.A) : OpR X (compareOp .NotEq) (rEqS X.K true) := by
  intro pins s σ H x y v u Q I rx ry h
  obtain ⟨d, e, r, hd, q⟩ := h
  have hu := hr.un
  exact (r.at_ I (A := X.A) (by omega) rx ry).2.1 X.prog X.w X.xe _ ⟨.bl (!e), H, I, rfl, q⟩
/-- sum of a list of ints -/
theorem call_sum (hc : X.calm = true) : CallR X (.builtin "sum") (fun xs H Q => ∃ (p : Addr) (ns : List Int), xs = [.ref p] ∧ SqL X.K H p (ns.map V.int) ∧ Q (.int ns.sum) H) := by
  intro pins s σ H xs us Q I r h
  obtain ⟨p, ns, rfl, hq, q⟩ := h
  obtain ⟨u, rfl, rx⟩ := vals1 r
  cases rx
  obtain ⟨its, r', pl, hz⟩ := I.list hq
  have hi : IntsAre its ns := intsAre_of r'
  obtain ⟨ys, e⟩ := hi.allInts.items
  have hl := pl.isList
  rw [e] at hl
  refine sum_intListG (I.ok.hd hc) hl fun h' tk t' hk => ⟨.int ns.sum, H, I.kept hk, ⟨t', ?_⟩, q⟩
  have n1 := hi.numsOf
  rw [show its = its.toArray.toList from rfl, e, nums_intItems] at n1
  rw [preSum_eq, List.take_of_length_le (by simp), n1]
/-- // by a number of at most 512 bits -/
def CDB (_ j : Int) : Prop := j ≠ 0 ∧ j.natAbs < 2 ^ 512
theorem op_fdivB : OpR X (binaryOp .FloorDiv) (rI CDB fun i j => .int (i.fdiv j)) := opI fun i j _ _ _ _ _ hc q => floordiv_int hc.1 q (.inl (PyProof.noPylong_of_log2 (by
  have h0 : j.natAbs ≠ 0 := by have := hc.1; omega
  have := (Nat.log2_lt h0).mpr hc.2
  omega)))
end
end L2
/-! ### for i, x in enumerate(xs) -/
namespace L2
open PySem PySem.Spec PyProof.Rows
section
variable {X : Cx} {elts : List Expr} {k : Nat} {tpos p pos : Pos} {e : Expr} {te : TE}
end
end L2

/-! ### xs[::-1]; a wished state behind a statement -/
namespace L2
open PySem PySem.Spec PyProof.Rows
section
variable {X : Cx} {e : Expr} {te : TE} {st : Expr} {ts : TO} {pos p2 : Pos}
end
section
variable {X : Cx} {st : Stmt} {t : TS}
end
end L2
/-! ### data: ints, lists, tuples, at any depth -/
namespace L2
open PySem PySem.Spec PyProof.Rows
inductive D where
  | i (n : Int) | l (xs : List D) | t (xs : List D)
mutual
/-- the value v is the datum -/
def Is (H : Hp) : D → V → Prop
  | .i n, v => v = .int n
  | .l xs, v => ∃ a vs, v = .ref a ∧ H a = some (.lst vs) ∧ Iss H xs vs
  | .t xs, v => ∃ a vs, v = .ref a ∧ H a = some (.tup vs) ∧ Iss H xs vs
def Iss (H : Hp) : List D → List V → Prop
  | [], vs => vs = []
  | x :: xs, vs => ∃ u us, vs = u :: us ∧ Is H x u ∧ Iss H xs us
end
theorem is_i {H : Hp} {n : Int} : Is H (.i n) (.int n) := by unfold Is; rfl
theorem is_l {H : Hp} {a : Addr} {xs : List D} {vs : List V} (h : H a = some (.lst vs)) (k : Iss H xs vs) : Is H (.l xs) (.ref a) := by unfold Is; exact ⟨a, vs, rfl, h, k⟩
theorem is_t {H : Hp} {a : Addr} {xs : List D} {vs : List V} (h : H a = some (.tup vs)) (k : Iss H xs vs) : Is H (.t xs) (.ref a) := by unfold Is; exact ⟨a, vs, rfl, h, k⟩
theorem of_i {H : Hp} {n : Int} {v : V} (h : Is H (.i n) v) : v = .int n := by unfold Is at h; exact h
theorem of_l {H : Hp} {xs : List D} {v : V} (h : Is H (.l xs) v) : ∃ a vs, v = .ref a ∧ H a = some (.lst vs) ∧ Iss H xs vs := by unfold Is at h; exact h
theorem of_t {H : Hp} {xs : List D} {v : V} (h : Is H (.t xs) v) : ∃ a vs, v = .ref a ∧ H a = some (.tup vs) ∧ Iss H xs vs := by unfold Is at h; exact h
theorem iss_nil {H : Hp} : Iss H [] [] := by unfold Iss; rfl
theorem iss_cons {H : Hp} {x : D} {xs : List D} {u : V} {us : List V} (h : Is H x u) (k : Iss H xs us) : Iss H (x :: xs) (u :: us) := by unfold Iss; exact ⟨u, us, rfl, h, k⟩
theorem of_cons {H : Hp} {x : D} {xs : List D} {vs : List V} (h : Iss H (x :: xs) vs) : ∃ u us, vs = u :: us ∧ Is H x u ∧ Iss H xs us := by unfold Iss at h; exact h
theorem of_nil {H : Hp} {vs : List V} (h : Iss H [] vs) : vs = [] := by unfold Iss at h; exact h
mutual
theorem Is.mono {H H' : Hp} (s : Same H H') : ∀ {d : D} {v : V}, Is H d v → Is H' d v
  | .i _, _, h => by rw [of_i h]; exact is_i
  | .l xs, _, h => by
    obtain ⟨a, vs, e, q, r⟩ := of_l h
    rw [e]
    exact is_l (s _ _ q) (Iss.mono s r)
  | .t xs, _, h => by
    obtain ⟨a, vs, e, q, r⟩ := of_t h
    rw [e]
    exact is_t (s _ _ q) (Iss.mono s r)
theorem Iss.mono {H H' : Hp} (s : Same H H') : ∀ {xs : List D} {vs : List V}, Iss H xs vs → Iss H' xs vs
  | [], _, h => by rw [of_nil h]; exact iss_nil
  | x :: xs, _, h => by
    obtain ⟨u, us, e, q, r⟩ := of_cons h
    rw [e]
    exact iss_cons (Is.mono s q) (Iss.mono s r)
end
theorem Iss.length {H : Hp} : ∀ {xs : List D} {vs : List V}, Iss H xs vs → vs.length = xs.length
  | [], _, h => by rw [of_nil h]; rfl
  | x :: xs, _, h => by
    obtain ⟨u, us, rfl, _, r⟩ := of_cons h
    rw [List.length_cons, List.length_cons, r.length]
theorem Iss.get {H : Hp} : ∀ {xs : List D} {vs : List V} {j : Nat} {x : D}, Iss H xs vs → xs[j]? = some x → ∃ v, vs[j]? = some v ∧ Is H x v
  | [], _, _, _, _, e => by simp at e
  | x :: xs, _, 0, _, h, e => by
    obtain ⟨u, us, rfl, q, _⟩ := of_cons h
    simp at e
    subst e
    exact ⟨u, rfl, q⟩
  | x :: xs, _, j + 1, _, h, e => by
    obtain ⟨u, us, rfl, _, r⟩ := of_cons h
    obtain ⟨v, e', k⟩ := r.get (j := j) (by simpa using e)
    exact ⟨v, by simpa using e', k⟩
theorem Iss.of_get {H : Hp} {xs : List D} {vs : List V} {j : Nat} {v : V} (h : Iss H xs vs) (e : vs[j]? = some v) : ∃ x, xs[j]? = some x ∧ Is H x v := by
  have hj : j < vs.length := (List.getElem?_eq_some_iff.mp e).1
  have hj' : j < xs.length := by rw [← h.length]; exact hj
  obtain ⟨u, e1, k⟩ := h.get (List.getElem?_eq_getElem hj')
  rw [e] at e1
  cases e1
  exact ⟨_, List.getElem?_eq_getElem hj', k⟩
theorem Iss.append {H : Hp} : ∀ {xs ys : List D} {vs ws : List V}, Iss H xs vs → Iss H ys ws → Iss H (xs ++ ys) (vs ++ ws)
  | [], _, _, _, h, k => by rw [of_nil h]; exact k
  | x :: xs, _, _, _, h, k => by
    obtain ⟨u, us, rfl, q, r⟩ := of_cons h
    exact iss_cons q (r.append k)
theorem Iss.take {H : Hp} : ∀ {xs : List D} {vs : List V} (n : Nat), Iss H xs vs → Iss H (xs.take n) (vs.take n)
  | [], _, n, h => by rw [of_nil h]; simp; exact iss_nil
  | x :: xs, _, 0, h => by simp; exact iss_nil
  | x :: xs, _, n + 1, h => by
    obtain ⟨u, us, rfl, q, r⟩ := of_cons h
    exact iss_cons q (r.take n)
theorem Iss.drop {H : Hp} : ∀ {xs : List D} {vs : List V} (n : Nat), Iss H xs vs → Iss H (xs.drop n) (vs.drop n)
  | [], _, n, h => by rw [of_nil h]; simp; exact iss_nil
  | x :: xs, _, 0, h => h
  | x :: xs, _, n + 1, h => by
    obtain ⟨u, us, rfl, q, r⟩ := of_cons h
    exact r.drop n
theorem Iss.rep {H : Hp} {x : D} {v : V} (h : Is H x v) : ∀ n : Nat, Iss H (List.replicate n x) (List.replicate n v)
  | 0 => iss_nil
  | n + 1 => by rw [List.replicate_succ, List.replicate_succ]; exact iss_cons h (Iss.rep h n)
mutual
/-- may be compared -/
def Kin : D → D → Prop
  | .i _, .i _ => True
  | .l xs, .l ys => Kins xs ys
  | .t xs, .t ys => Kins xs ys
  | _, _ => False
def Kins : List D → List D → Prop
  | x :: xs, y :: ys => Kin x y ∧ Kins xs ys
  | _, _ => True
end
mutual
def eqD : D → D → Bool
  | .i a, .i b => decide (a = b)
  | .l xs, .l ys => eqDs xs ys
  | .t xs, .t ys => eqDs xs ys
  | _, _ => false
def eqDs : List D → List D → Bool
  | [], [] => true
  | x :: xs, y :: ys => eqD x y && eqDs xs ys
  | _, _ => false
end
mutual
def dep : D → Nat
  | .i _ => 0
  | .l xs => deps xs + 1
  | .t xs => deps xs + 1
def deps : List D → Nat
  | [] => 0
  | x :: xs => max (dep x) (deps xs)
end
mutual
theorem eqD_iff : ∀ {a b : D}, eqD a b = true ↔ a = b
  | .i a, .i b => by simp [eqD]
  | .i _, .l _ => by simp [eqD]
  | .i _, .t _ => by simp [eqD]
  | .l _, .i _ => by simp [eqD]
  | .l xs, .l ys => by simp [eqD, eqDs_iff (xs := xs) (ys := ys)]
  | .l _, .t _ => by simp [eqD]
  | .t _, .i _ => by simp [eqD]
  | .t _, .l _ => by simp [eqD]
  | .t xs, .t ys => by simp [eqD, eqDs_iff (xs := xs) (ys := ys)]
theorem eqDs_iff : ∀ {xs ys : List D}, eqDs xs ys = true ↔ xs = ys
  | [], [] => by simp [eqDs]
  | [], _ :: _ => by simp [eqDs]
  | _ :: _, [] => by simp [eqDs]
  | x :: xs, y :: ys => by simp [eqDs, eqD_iff (a := x) (b := y), eqDs_iff (xs := xs) (ys := ys)]
end
theorem eqD_self {a : D} : eqD a a = true := eqD_iff.mpr rfl
theorem eqDs_all : ∀ {xs ys : List D}, xs.length = ys.length → eqDs xs ys = (List.range xs.length).all fun j => eqD (xs.getD j (.i 0)) (ys.getD j (.i 0))
  | [], [], _ => by simp [eqDs]
  | x :: xs, y :: ys, h => by
    have ih := eqDs_all (xs := xs) (ys := ys) (by simpa using h)
    rw [eqDs, ih, List.length_cons, List.range_succ_eq_map]
    simp [List.all_map, Function.comp_def]
theorem eqDs_len {xs ys : List D} (h : xs.length ≠ ys.length) : eqDs xs ys = false := by
  cases e : eqDs xs ys with
  | false => rfl
  | true => exact absurd (congrArg List.length (eqDs_iff.mp e)) h
mutual
theorem Is.eqr {K : PySem.W.Frag} {H : Hp} : ∀ {d e : D} {v w : V} {n : Nat}, dep d ≤ n → Kin d e → Is H d v → Is H e w → EqR K H n v w (eqD d e)
  | .i a, .i b, _, _, n, _, _, h, k => by
    rw [of_i h, of_i k, eqD]
    exact EqR.int n a b
  | .l xs, .l ys, _, _, 0, hn, _, _, _ => absurd hn (by unfold dep; omega)
  | .l xs, .l ys, _, _, n + 1, hn, hk, h, k => by
    obtain ⟨a, vs, rfl, ha, ra⟩ := of_l h
    obtain ⟨b, ws, rfl, hb, rb⟩ := of_l k
    have hn' : deps xs ≤ n := by unfold dep at hn; omega
    have hk' : Kins xs ys := by unfold Kin at hk; exact hk
    have l1 := ra.length
    have l2 := rb.length
    rw [eqD]
    by_cases hl : xs.length = ys.length
    · rw [eqDs_all hl, ← l1]
      exact EqR.lists _ (SqL.of ha) (SqL.of hb) (by omega) fun j x y hx hy => Iss.eqr hn' hk' ra rb hx hy
    · rw [eqDs_len hl]
      exact EqR.lens (SqL.of ha) (SqL.of hb) (by omega)
  | .t xs, .t ys, _, _, 0, hn, _, _, _ => absurd hn (by unfold dep; omega)
  | .t xs, .t ys, _, _, n + 1, hn, hk, h, k => by
    obtain ⟨a, vs, rfl, ha, ra⟩ := of_t h
    obtain ⟨b, ws, rfl, hb, rb⟩ := of_t k
    have hn' : deps xs ≤ n := by unfold dep at hn; omega
    have hk' : Kins xs ys := by unfold Kin at hk; exact hk
    have l1 := ra.length
    have l2 := rb.length
    rw [eqD]
    have q := EqR.tuples (d := n) (fun j => eqD (xs.getD j (.i 0)) (ys.getD j (.i 0))) (SqT.of (K := K) ha) (SqT.of (K := K) hb) fun j x y hx hy => Iss.eqr hn' hk' ra rb hx hy
    by_cases hl : xs.length = ys.length
    · rw [eqDs_all hl]
      rw [l1, l2, ← hl, Nat.min_self] at q
      simpa using q
    · rw [eqDs_len hl]
      have z : (vs.length == ws.length) = false := by rw [l1, l2]; simpa using hl
      rw [z, Bool.and_false] at q
      exact q
  | .i _, .l _, _, _, _, _, hk, _, _ => by unfold Kin at hk; exact hk.elim
  | .i _, .t _, _, _, _, _, hk, _, _ => by unfold Kin at hk; exact hk.elim
  | .l _, .i _, _, _, _, _, hk, _, _ => by unfold Kin at hk; exact hk.elim
  | .l _, .t _, _, _, _, _, hk, _, _ => by unfold Kin at hk; exact hk.elim
  | .t _, .i _, _, _, _, _, hk, _, _ => by unfold Kin at hk; exact hk.elim
  | .t _, .l _, _, _, _, _, hk, _, _ => by unfold Kin at hk; exact hk.elim
theorem Iss.eqr {K : PySem.W.Frag} {H : Hp} : ∀ {xs ys : List D} {vs ws : List V} {n : Nat}, deps xs ≤ n → Kins xs ys → Iss H xs vs → Iss H ys ws → ∀ {j : Nat} {x y : V}, vs[j]? = some x → ws[j]? = some y →
    EqR K H n x y (eqD (xs.getD j (.i 0)) (ys.getD j (.i 0)))
  | [], _, _, _, _, _, _, h, _, _, _, _, e, _ => by rw [of_nil h] at e; simp at e
  | _ :: _, [], _, _, _, _, _, _, k, _, _, _, _, e => by rw [of_nil k] at e; simp at e
  | x :: xs, y :: ys, _, _, n, hn, hk, h, k, 0, u, w, e1, e2 => by
    obtain ⟨u', us, rfl, q, _⟩ := of_cons h
    obtain ⟨w', ws, rfl, q', _⟩ := of_cons k
    simp at e1 e2
    subst e1 e2
    have hk' : Kin x y ∧ Kins xs ys := by unfold Kins at hk; exact hk
    have hd : dep x ≤ n := by unfold deps at hn; omega
    exact Is.eqr (d := x) (e := y) hd hk'.1 q q'
  | x :: xs, y :: ys, _, _, n, hn, hk, h, k, j + 1, u, w, e1, e2 => by
    obtain ⟨u', us, rfl, _, r⟩ := of_cons h
    obtain ⟨w', ws, rfl, _, r'⟩ := of_cons k
    have hk' : Kin x y ∧ Kins xs ys := by unfold Kins at hk; exact hk
    have hd : deps xs ≤ n := by unfold deps at hn; omega
    have := Iss.eqr (K := K) hd hk'.2 r r' (j := j) (by simpa using e1) (by simpa using e2)
    simpa using this
end
/-! ### points -/
abbrev Pt := Int × Int
def pt (p : Pt) : D := .t [.i p.1, .i p.2]
/-! ### a list that grows -/
/-- without what stands at a -/
def hid (H : Hp) (a : Addr) : Hp := fun b => if b = a then none else H b
theorem hid_at {H : Hp} {a b : Addr} (h : b ≠ a) : hid H a b = H b := by unfold hid; rw [if_neg h]
theorem hid_same {H : Hp} {a : Addr} : Same (hid H a) H := fun b o e => by
  unfold hid at e
  split at e
  · cases e
  · exact e
theorem hid_mono {H H' : Hp} {a : Addr} (s : Same H H') : Same (hid H a) (hid H' a) := fun b o e => by
  unfold hid at e ⊢
  split at e
  · cases e
  · rename_i h
    rw [if_neg h]
    exact s b o e
theorem hid_upd {H : Hp} {a : Addr} {o : HO} : hid (upd H a o) a = hid H a := by
  funext b
  unfold hid
  split
  · rfl
  · rename_i h
    exact upd_ne h
/-- none of the list's own things is the list -/
def Grow (H : Hp) (a : Addr) (xs : List D) : Prop := ∃ vs, H a = some (.lst vs) ∧ Iss (hid H a) xs vs
theorem Grow.is {H : Hp} {a : Addr} {xs : List D} (g : Grow H a xs) : Is H (.l xs) (.ref a) := let ⟨_, e, h⟩ := g; is_l e (h.mono hid_same)
theorem grow_add {H : Hp} {a : Addr} {xs : List D} {x : D} {vs : List V} {v : V} (h : Iss (hid H a) xs vs) (k : Is (hid H a) x v) : Grow (upd H a (.lst (vs ++ [v]))) a (xs ++ [x]) :=
  ⟨_, upd_same, by rw [hid_upd]; exact h.append (iss_cons k iss_nil)⟩
end L2
/-! ### what is newly laid, told by what is true of it -/
namespace L2
open PySem PySem.Spec PyProof.Rows
section
variable {X : Cx} {es : List Expr} {t : TA} {pos : Pos}
def New (H : Hp) (o : HO) (Q : VK) : Prop := ∀ p H2, H p = none → Same H H2 → H2 p = some o → Q (.ref p) H2
theorem New.at {H : Hp} {o : HO} {Q : VK} (q : New H o Q) {p : Addr} (np : H p = none) : Q (.ref p) (upd H p o) := q p _ np (Same.new np) upd_same
def tTupN (t : TA) : TE := fun σ H Q => t σ H fun xs H1 => xs.length ≤ sizeLine ∧ New H1 (.tup xs) Q
def tLstN (t : TA) : TE := fun σ H Q => t σ H fun xs H1 => xs.length ≤ sizeLine ∧ New H1 (.lst xs) Q
theorem pe_tupN {x1} (h : PA X es t) : PE X (.Tuple es x1 pos) (tTupN t) := by
  intro pins s σ H Q I hq
  refine wpAny_Tuple_spliced (thn (h pos pins s σ H _ I hq) fun us s1 ⟨xs, H1, I1, r, z, q⟩ => ⟨by rw [← r.length]; exact z, ?_⟩)
  refine ⟨.ref s1.heap.objs.size, upd H1 s1.heap.objs.size (.tup xs), I1.laid (t' := s1.toks) (fun b u e => Heap.get?_push_of_some _ e) (Nat.le_refl _) ?_, rfl, q.at (I1.hok.fresh (Nat.le_refl _))⟩
  exact ⟨z, us, r, ⟨_, Heap.get?_push_size _ rfl, rfl, _, rfl⟩⟩
theorem pe_lstN (h : PA X es t) : PE X (.List es pos) (tLstN t) := by
  intro pins s σ H Q I hq
  refine wpAny_List_spliced (thn (h pos pins s σ H _ I hq) fun us s1 ⟨xs, H1, I1, r, z, q⟩ => ⟨by rw [← r.length]; exact z, ?_⟩)
  refine ⟨.ref s1.heap.objs.size, upd H1 s1.heap.objs.size (.lst xs), I1.laid (t' := s1.toks) (fun b u e => Heap.get?_push_of_some _ e) (Nat.le_refl _) ?_, rfl, q.at (I1.hok.fresh (Nat.le_refl _))⟩
  exact ⟨z, us, 0, r, Heap.get?_push_size _ rfl⟩
theorem OpR.imp {f : Value → Value → Sem Value} {r r' : R2} (h : OpR X f r) (k : ∀ x y H Q, r' x y H Q → r x y H Q) : OpR X f r' := fun pins s σ H x y v u Q I rx ry q => h pins s σ H x y v u Q I rx ry (k _ _ _ _ q)
theorem CallR.imp {f : Value} {r r' : List V → Hp → VK → Prop} (h : CallR X f r) (k : ∀ xs H Q, r' xs H Q → r xs H Q) : CallR X f r' := fun pins s σ H xs us Q I rs q => h pins s σ H xs us Q I rs (k _ _ _ q)
theorem rep_one {α : Type} {x : α} : ∀ n : Nat, (List.replicate n [x]).flatten = List.replicate n x
  | 0 => rfl
  | n + 1 => by rw [List.replicate_succ, List.flatten_cons, rep_one n, List.replicate_succ]; rfl
/-- [x] * n -/
theorem op_repN : OpR X (binaryOp .Mult) (fun x y H Q => ∃ d n, Is H (.l [d]) x ∧ y = .int n ∧ -(2 ^ 63) ≤ n ∧ n < 2 ^ 63 ∧ n.toNat ≤ sizeLine ∧ ∀ p H2, H p = none → Same H H2 → Is H2 (.l (List.replicate n.toNat d)) (.ref p) → Q (.ref p) H2) :=
  op_rep.imp fun x y H Q ⟨d, n, hx, ey, h1, h2, hl, q⟩ => by
    obtain ⟨a, vs, rfl, ha, ra⟩ := of_l hx
    obtain ⟨u, us, rfl, hu, ru⟩ := of_cons ra
    rw [of_nil ru] at ha
    refine ⟨a, n, _, rfl, ey, ha, h1, h2, by rw [List.length_singleton, Nat.one_mul]; exact hl, fun p np => q p _ np (Same.new np) ?_⟩
    rw [rep_one]
    exact is_l upd_same ((Iss.rep hu _).mono (Same.new np))
/-- list(xs), xs a list of data -/
theorem call_list_ofN : CallR X (.type "list") (fun vs H Q => ∃ v xs, vs = [v] ∧ (Is H (.l xs) v ∨ Is H (.t xs) v) ∧ ∀ p H2, H p = none → Same H H2 → Is H2 (.l xs) (.ref p) → Q (.ref p) H2) :=
  call_list_of.imp fun vs H Q ⟨v, xs, ev, hx, q⟩ => by
    subst ev
    rcases hx with hx | hx
    · obtain ⟨a, ws, rfl, ha, ra⟩ := of_l hx
      exact ⟨a, ws, rfl, .inl (SqL.of ha), fun p np => q p _ np (Same.new np) (is_l upd_same (ra.mono (Same.new np)))⟩
    · obtain ⟨a, ws, rfl, ha, ra⟩ := of_t hx
      exact ⟨a, ws, rfl, .inr (SqT.of ha), fun p np => q p _ np (Same.new np) (is_l upd_same (ra.mono (Same.new np)))⟩
/-- tuple(xs), xs a list of data -/
theorem call_tuple_ofN : CallR X (.type "tuple") (fun vs H Q => ∃ v xs, vs = [v] ∧ Is H (.l xs) v ∧ ∀ p H2, H p = none → Same H H2 → Is H2 (.t xs) (.ref p) → Q (.ref p) H2) :=
  call_tuple_of.imp fun vs H Q ⟨v, xs, ev, hx, q⟩ => by
    subst ev
    obtain ⟨a, ws, rfl, ha, ra⟩ := of_l hx
    exact ⟨a, ws, rfl, .inl ⟨SqL.of ha, fun p np => q p _ np (Same.new np) (is_t upd_same (ra.mono (Same.new np)))⟩⟩
/-- xs[i], a datum's item -/
theorem ix_D {α : Type} {xs : List α} {i : Int} {j : Nat} {x : α} (e : i = j) (h : xs[j]? = some x) : atI xs i = some x := by rw [e]; exact atI_nat h
theorem Iss.atI {H : Hp} {xs : List D} {vs : List V} {i : Int} {x : D} (h : Iss H xs vs) (e : L2.atI xs i = some x) : ∃ u, L2.atI vs i = some u ∧ Is H x u := by
  unfold L2.atI at e ⊢
  rw [h.length]
  cases q : ixN xs.length i with
  | none => rw [q] at e; cases e
  | some j =>
    rw [q] at e
    obtain ⟨u, e1, k⟩ := h.get (j := j) e
    exact ⟨u, e1, k⟩
theorem ix_listN : IxR X (fun x y H Q => ∃ xs i d, Is H (.l xs) x ∧ y = .int i ∧ atI xs i = some d ∧ ∀ u, Is H d u → Q u H) := by
  intro value slice pins s σ H x y v u Q I rx ry h hs
  obtain ⟨xs, i, d, hx, ey, e, q⟩ := h
  obtain ⟨a, vs, rfl, ha, ra⟩ := of_l hx
  obtain ⟨z, ez, hz⟩ := ra.atI e
  exact ix_list value slice pins s σ H (.ref a) y v u Q I rx ry ⟨a, vs, i, z, rfl, ey, SqL.of ha, ez, q z hz⟩ hs
theorem ix_tupN : IxR X (fun x y H Q => ∃ xs i d, Is H (.t xs) x ∧ y = .int i ∧ atI xs i = some d ∧ ∀ u, Is H d u → Q u H) := by
  intro value slice pins s σ H x y v u Q I rx ry h hs
  obtain ⟨xs, i, d, hx, ey, e, q⟩ := h
  obtain ⟨a, vs, rfl, ha, ra⟩ := of_t hx
  obtain ⟨z, ez, hz⟩ := ra.atI e
  exact ix_tup value slice pins s σ H (.ref a) y v u Q I rx ry ⟨a, vs, i, z, rfl, ey, SqT.of ha, ez, q z hz⟩ hs
/-- len(xs) -/
theorem call_lenN : CallR X (.builtin "len") (fun vs H Q => ∃ v xs, vs = [v] ∧ (Is H (.l xs) v ∨ Is H (.t xs) v) ∧ Q (.int xs.length) H) :=
  call_len_seq.imp fun vs H Q ⟨v, xs, ev, hx, q⟩ => by
    subst ev
    rcases hx with hx | hx
    · obtain ⟨a, ws, rfl, ha, ra⟩ := of_l hx
      exact ⟨a, ws, rfl, .inl (SqL.of ha), by rw [ra.length]; exact q⟩
    · obtain ⟨a, ws, rfl, ha, ra⟩ := of_t hx
      exact ⟨a, ws, rfl, .inr (SqT.of ha), by rw [ra.length]; exact q⟩
end
end L2
/-! ### exceptions of own classes: raised in a def, passed on, caught -/
namespace L2
open PySem PySem.Spec PyProof.Rows
section
variable {P : Program} {w : World} {H : Hp} {h : Heap} {a : Addr} {o : HO}
end
section
variable {X : Cx} {pins : List (Addr × Obj)} {σ : St} {H H' : Hp} {s s' : Shared} {B h' : Heap} {l : List Env}
end
/-! ### raise C(e, ..) -/
section
variable {X : Cx} {pos np cpos : Pos} {x : Str} {C : Addr} {E : XK} {e : Expr} {es : List Expr} {t : TA}
end

/-! ### f-strings of ints -/
section
variable {X : Cx} {pos : Pos} {e v : Expr} {es : List Expr} {te : TE}
end

/-! ### f(e, ..), f a name that holds a def -/
section
variable {X : Cx} {CX : CXT} {ps : List Str} {sp : Sp} {E : XK} {x : Str} {p pos : Pos} {e : Expr} {es : List Expr} {t : TA} {i : Nat}
end
end L2
/-! ### isinstance of an exception that is held -/
namespace L2
open PySem PySem.Calls PyProof.Rows PySem.W Builtin Builtin.ObjectAttr Builtin.Getset_descriptor
section
variable {prog : Program} {w : World} {A : Around} {E : Value → Shared → Prop} {K : Frag} {x C : Addr} {h : Heap} {g : Array GenState} {d : Drawn} {t : Nat} {os : OsState}
end
section
variable {X : Cx}
end
end L2
/-! ### try: .. except C as n: .. -/
namespace L2
open PySem PySem.Spec PyProof.Rows PySem.W
section
variable {X : Cx} {pins pn : List (Addr × Obj)} {σ : St} {H H' : Hp} {s s' : Shared} {z : Value → Shared → Prop} {e : Addr}
end
end L2
/-! ### for x in range(hi, lo, -1) -/
namespace L2
open PySem PySem.Spec PyProof.Rows
section
variable {X : Cx} {tg : Expr}
end
end L2
/-! ### any thing as a degree, and its bounds -/
namespace L2
open PySem PySem.Spec PyProof.Rows
def Within (lo hi : Int) (v : V) : Prop := ∃ i, v = .int i ∧ lo ≤ i ∧ i ≤ hi
end L2
/-! ### for x, y in zip(xs, ys) -/
namespace L2
open PySem PySem.Spec PyProof.Rows
section
variable {X : Cx} {pins : List (Addr × Obj)} {σ : St} {H : Hp} {s : Shared} {h' : Heap} {ch : List Addr} {t' : Nat}
end
section
variable {X : Cx} {elts : List Expr} {k : Nat} {tpos p pos : Pos} {e f : Expr} {te tf : TE}
end
theorem pg_tupK {X : Cx} {es : List Expr} {k : Nat} {pos : Pos} {t : TGs} {n : Nat} {K : PySem.W.Frag} (hK : X.K = K) (hc : X.calm = true) (h : PGs X es t)
    (hn : (assignEach es X.env).length = n := by rfl) (hst : (assignEach es X.env).findIdx? (·.1) = none := by rfl) : PG X (.Tuple es k pos) (gTup K n t) := hK ▸ pg_tup hc h hn hst
end L2
/-! ### less than -/
namespace PySem.SeqAt
open AutoSeq1 (wpAny_loadPart')
open MeetsSeq MeetsSeq2 MeetsSeq3 SeqRoads2
def LtAt (A : Around) (s : Shared) (y x : Value) (b : Bool) : Prop :=
  ∀ (prog : Program) (w : World) (E : Value → Shared → Prop) (Q : Value → Shared → Prop), Q (.bool b) s → wpAny (model prog w) A (richCompare .Lt y x) Q E s
section
variable {A : Around} {s : Shared}
theorem LtAt.int_int (i : Int) (t : Tok) (j : Int) (u : Tok) : LtAt A s (.int i t) (.int j u) (decide (i < j)) := fun prog w E Q h => wpAny_lt_int h
end
end PySem.SeqAt
/-! ### < of ints, lists, tuples at any depth -/
namespace L2
open PySem PySem.Spec PyProof.Rows
section
variable {X : Cx} {pins : List (Addr × Obj)} {σ : St} {H : Hp} {s : Shared}
end
end L2
/-! ### min, max of a list of ints; all, any of a list of truths -/
namespace L2
open PySem PySem.Spec PyProof.Rows
/-- the least one, the greatest one of a list, as the walk finds it -/
def minL (ns : List Int) : Int := ns.getD (argBest (fun i j => decide (ns.getD i 0 < ns.getD j 0)) (ns.length - 1)) 0
def maxL (ns : List Int) : Int := ns.getD (argBest (fun i j => decide (ns.getD i 0 > ns.getD j 0)) (ns.length - 1)) 0
section
variable {X : Cx}
theorem numAt_of {ys : Array (Int × Tok)} {ns : List Int} (h : ys.toList.map (·.1) = ns) (i : Nat) : numAt ys i = ns.getD i 0 := by
  subst h
  unfold numAt
  rw [List.getD, List.getElem?_map, Array.getElem?_toList]
theorem call_min1 (hc : X.calm = true) : CallR X (.builtin "min") (fun xs H Q => ∃ (p : Addr) (ns : List Int), xs = [.ref p] ∧ SqL X.K H p (ns.map V.int) ∧ 0 < ns.length ∧ Q (.int (minL ns)) H) := by
  intro pins s σ H xs us Q I r h
  obtain ⟨p, ns, rfl, hq, h0, q⟩ := h
  obtain ⟨u, rfl, rx⟩ := vals1 r
  cases rx
  obtain ⟨its, r', pl, hz⟩ := I.list hq
  have hi : IntsAre its ns := intsAre_of r'
  obtain ⟨ys, e⟩ := hi.allInts.items
  have n1 := hi.numsOf
  rw [show its = its.toArray.toList from rfl, e, nums_intItems] at n1
  have hsz : ys.size = ns.length := by rw [← n1]; simp
  have hl := pl.isList
  rw [e] at hl
  refine min_intList (I.ok.hd hc) hl (by omega) fun v h' tk hv hk => ?_
  obtain ⟨t, rfl⟩ := intItems_at hv
  refine ⟨.int (minL ns), H, I.kept hk, ⟨t, ?_⟩, q⟩
  unfold minL
  rw [numAt_of n1, hsz]
  simp only [numAt_of n1]
theorem call_max1 (hc : X.calm = true) : CallR X (.builtin "max") (fun xs H Q => ∃ (p : Addr) (ns : List Int), xs = [.ref p] ∧ SqL X.K H p (ns.map V.int) ∧ 0 < ns.length ∧ Q (.int (maxL ns)) H) := by
  intro pins s σ H xs us Q I r h
  obtain ⟨p, ns, rfl, hq, h0, q⟩ := h
  obtain ⟨u, rfl, rx⟩ := vals1 r
  cases rx
  obtain ⟨its, r', pl, hz⟩ := I.list hq
  have hi : IntsAre its ns := intsAre_of r'
  obtain ⟨ys, e⟩ := hi.allInts.items
  have n1 := hi.numsOf
  rw [show its = its.toArray.toList from rfl, e, nums_intItems] at n1
  have hsz : ys.size = ns.length := by rw [← n1]; simp
  have hl := pl.isList
  rw [e] at hl
  refine max_intList (I.ok.hd hc) hl (by omega) fun v h' tk hv hk => ?_
  obtain ⟨t, rfl⟩ := intItems_at hv
  refine ⟨.int (maxL ns), H, I.kept hk, ⟨t, ?_⟩, q⟩
  unfold maxL
  rw [numAt_of n1, hsz]
  simp only [numAt_of n1]
end
end L2
/-! ### list(range(a, b)) -/
namespace L2
open PySem PySem.Spec PyProof.Rows
section
variable {X : Cx} {a b : Expr} {ta : TA} {p1 p2 p3 pos : Pos}
end
end L2
/-! ### tuples of ints -/
namespace L2
open PySem PySem.Spec PyProof.Rows
/-- a tuple of ints -/
def tI (xs : List Int) : D := .t (xs.map .i)
theorem iss_ints {H : Hp} : ∀ {xs : List Int} {vs : List V}, Iss H (xs.map .i) vs → vs = xs.map V.int
  | [], vs, h => h
  | x :: xs, vs, h => by
    obtain ⟨u, us, rfl, h1, h2⟩ := h
    rw [of_i h1, iss_ints h2]
    rfl
theorem ints_iss {H : Hp} : ∀ (xs : List Int), Iss H (xs.map .i) (xs.map V.int)
  | [] => rfl
  | x :: xs => ⟨_, _, rfl, is_i, ints_iss xs⟩
theorem of_tI {H : Hp} {xs : List Int} {v : V} (h : Is H (tI xs) v) : ∃ a, v = .ref a ∧ H a = some (.tup (xs.map V.int)) := by
  obtain ⟨a, vs, rfl, ha, hi⟩ := of_t h
  rw [iss_ints hi] at ha
  exact ⟨a, rfl, ha⟩
theorem is_tI {H : Hp} {xs : List Int} {a : Addr} (h : H a = some (.tup (xs.map V.int))) : Is H (tI xs) (.ref a) := is_t h (ints_iss xs)
end L2
/-! ### sorted(xs) of a list of tuples of ints, fewer than 64: some order of them, by the kit's own tree of the sort -/
namespace L2
open PySem PySem.Spec PyProof.Rows PySem.W
section
variable {n : Nat}
/-- the places in some order -/
def Ord (n : Nat) (p : Array Nat) : Prop := p.Perm (List.range n).toArray
theorem Ord.size {p : Array Nat} (h : Ord n p) : p.size = n := by
  have := (Array.perm_iff_toList_perm.mp h).length_eq
  simpa using this
theorem Ord.lt {p : Array Nat} (h : Ord n p) {i : Nat} (hi : i ∈ p.toList) : i < n := by
  have := (Array.perm_iff_toList_perm.mp h).mem_iff.mp hi
  simpa using this
theorem Ord.bubble {p : Array Nat} (h : Ord n p) (i j : Nat) : Ord n (PyProof.Rows.bubble p i j) := (bubble_perm p i j).trans h
theorem Ord.kas {p : Array Nat} (h : Ord n p) (i j : Nat) : Ord n (kas_rev p i j) := (mirror_perm p i j _).trans h
theorem Ord.getD {p : Array Nat} (h : Ord n p) (hn : 0 < n) (i : Nat) : p.getD i 0 < n := by
  by_cases hi : i < p.size
  · have e : p.getD i 0 = p[i] := by simp [Array.getD, hi]
    rw [e]
    exact h.lt (by simp)
  · have e : p.getD i 0 = 0 := by simp [Array.getD, hi]
    rw [e]
    exact hn
/-- every way through the tree asks of places and ends in R -/
def Leaves (n : Nat) {α : Type} (R : α → Prop) : KasT α → Prop
  | .ret a => R a
  | .ask i j k => i < n ∧ j < n ∧ ∀ b, Leaves n R (k b)
theorem Leaves.bind {α β : Type} {R : α → Prop} {R' : β → Prop} {f : α → KasT β} (hf : ∀ a, R a → Leaves n R' (f a)) : ∀ {t : KasT α}, Leaves n R t → Leaves n R' (t.bind f)
  | .ret a, h => hf a h
  | .ask i j k, h => ⟨h.1, h.2.1, fun b => Leaves.bind hf (h.2.2 b)⟩
variable (hn : 0 < n)
include hn
theorem lv_asc {p : Array Nat} (h : Ord n p) : ∀ f m, Leaves n (fun _ => True) (kas_asc p f m)
  | 0, m => trivial
  | f + 1, m => ⟨h.getD hn _, h.getD hn _, fun b => by
    cases b with
    | true => exact trivial
    | false => exact lv_asc h f (m + 1)⟩
theorem lv_desc : ∀ (f : Nat) (p : Array Nat) (m q : Nat), Ord n p → Leaves n (fun r => Ord n r.1) (kas_desc f p m q)
  | 0, p, m, q, h => h
  | f + 1, p, m, q, h => ⟨h.getD hn _, h.getD hn _, fun b => by
    cases b with
    | true =>
      show Leaves n _ (if q > 0 then kas_desc f (kas_rev p (m - (q + 1)) m) (m + 1) 0 else kas_desc f p (m + 1) 0)
      by_cases hq : q > 0
      · rw [if_pos hq]; exact lv_desc f _ _ _ (h.kas _ _)
      · rw [if_neg hq]; exact lv_desc f _ _ _ h
    | false =>
      refine (show Leaves n _ (KasT.ask (p.getD (m - 1) 0) (p.getD m 0) fun d => if d = true then KasT.ret (p, m, q) else kas_desc f p (m + 1) (q + 1)) from ⟨h.getD hn _, h.getD hn _, fun b => ?_⟩)
      cases b with
      | true => exact h
      | false => exact lv_desc f _ _ _ h⟩
theorem lv_tail {p : Array Nat} (h : Ord n p) (m k : Nat) : Leaves n (fun r => Ord n r.2) (kas_tail3 m k p) := by
  unfold kas_tail3
  refine Leaves.bind (fun a _ => ?_) (lv_asc hn (h.kas 0 m) _ _)
  exact h.kas 0 m
theorem lv_part {p : Array Nat} (h : Ord n p) (m k : Nat) : Leaves n (fun r => Ord n r.2) (kas_descPart m k p) := by
  refine (lv_desc hn _ _ _ _ h).bind fun r hr => ?_
  by_cases hq : r.2.2 > 0
  · rw [if_pos hq]; exact lv_tail hn (hr.kas _ _) _ _
  · rw [if_neg hq]; exact lv_tail hn hr _ _
theorem lv_count {p : Array Nat} (h : Ord n p) (k : Nat) : Leaves n (fun r => Ord n r.2) (kas_count k p) := by
  refine (lv_asc hn h _ _).bind fun m _ => ?_
  by_cases h1 : (m == k) = true
  · rw [if_pos h1]; exact h
  · rw [if_neg h1]
    by_cases h2 : m > 1
    · rw [if_pos h2]
      refine ⟨h.getD hn _, h.getD hn _, fun b => ?_⟩
      cases b with
      | true => exact h
      | false => exact lv_part hn (h.kas _ _) _ _
    · rw [if_neg h2]; exact lv_part hn h _ _
theorem lv_place {p : Array Nat} (h : Ord n p) (k : Nat) : ∀ f l r, Leaves n (fun _ => True) (kas_place p k f l r)
  | 0, l, r => trivial
  | f + 1, l, r => by
    unfold kas_place
    by_cases h1 : l ≥ r
    · rw [if_pos h1]; exact trivial
    · rw [if_neg h1]
      refine ⟨h.getD hn _, h.getD hn _, fun b => ?_⟩
      cases b with
      | true => exact lv_place h k f _ _
      | false => exact lv_place h k f _ _
theorem lv_bin : ∀ (f : Nat) (p : Array Nat) (k : Nat), Ord n p → Leaves n (Ord n) (kas_bin f p k)
  | 0, p, k, h => h
  | f + 1, p, k, h => (lv_place hn h k _ _ _).bind fun l _ => lv_bin f _ _ (h.bubble _ _)
theorem lv_sort : Leaves n (Ord n) (kas_sort n) := by
  refine (lv_count hn (show Ord n (List.range n).toArray from Array.Perm.refl _) n).bind fun r hr => ?_
  by_cases h : r.1 < n
  · rw [if_pos h]; exact lv_bin hn _ _ _ hr
  · rw [if_neg h]; exact hr
end
section
variable {prog : Program} {w : World} {A : Around} {E : Value → Shared → Prop} {s : Shared}
abbrev sortIn (h : Heap) (a : Addr) (vs : List Value) : Heap := ((h.update a (Obj.mapSeq fun _ => (#[] : Array Value))).push (seqObj "tuple" vs.toArray 0)).push (seqObj "list" #[] 0)
abbrev sortedIn (h : Heap) (vs : List Value) : Heap := sortIn (((h.push (seqObj "list" #[] 0)).update h.objs.size (Obj.mapSeq (· ++ vs.toArray))).push (seqObj "list" vs.toArray 0)) (h.objs.size + 1) vs
theorem sortedIn_old {h : Heap} {vs : List Value} {b : Addr} {o : Obj} (hb : h.get? b = some o) : (sortedIn h vs).get? b = some o := by
  have hlt : b < h.objs.size := Heap.lt_size hb
  have sz : (((h.push (seqObj "list" #[] 0)).update h.objs.size (Obj.mapSeq (· ++ vs.toArray))).push (seqObj "list" vs.toArray 0)).objs.size = h.objs.size + 2 := by rw [size_push', Heap.size_update, size_push']
  have n0 : b ≠ h.objs.size := Nat.ne_of_lt hlt
  have n1 : b ≠ h.objs.size + 1 := Nat.ne_of_lt (Nat.lt_succ_of_lt hlt)
  have n2 : b ≠ h.objs.size + 2 := Nat.ne_of_lt (Nat.lt_succ_of_lt (Nat.lt_succ_of_lt hlt))
  have n3 : b ≠ h.objs.size + 2 + 1 := Nat.ne_of_lt (Nat.lt_succ_of_lt (Nat.lt_succ_of_lt (Nat.lt_succ_of_lt hlt)))
  rw [Heap.get?_push_ne _ _ _ (by rw [size_push', Heap.size_update, sz]; exact n3), Heap.get?_push_ne _ _ _ (by rw [Heap.size_update, sz]; exact n2), Heap.get?_update_ne _ _ _ _ n1,
    Heap.get?_push_ne _ _ _ (by rw [Heap.size_update, size_push']; exact n1), Heap.get?_update_ne _ _ _ _ n0, Heap.get?_push_ne _ _ _ n0]
  exact hb
end
/-! fewer than two items -/
section
variable {prog : Program} {w : World} {A : Around} {E : Value → Shared → Prop} {s : Shared}
theorem sort_few {a : Addr} {vs : List Value} {n : Nat} {P : PySem.Fin → Shared → Prop} (ho : s.heap.get? a = some (seqObj "list" vs.toArray n)) (h2 : vs.length < 2)
    (h : P (.done (.ret .none)) { s with heap := sortedHeap s.heap a vs vs.toArray }) : wpAny (model prog w) A (Builtin.«list.sort» ⟨[.ref a], []⟩) P E s := by
  rw [list_sort_plain]
  have ha : a < s.heap.objs.size := Heap.lt_size ho
  refine wpAny_bind (listItems_at ho rfl ?_)
  refine wpAny_bind (listUpdate_at ho rfl ?_ (by rw [List.size_toArray, sizeLine_eq]; omega) (Nat.zero_le _))
  obtain ⟨e1, ho1⟩ : ∃ e1, (s.heap.update a (Obj.mapSeq fun _ => (#[] : Array Value))).get? a = some (seqObj "list" #[] e1) := ⟨_, get?_update_seq ho (fun _ => #[])⟩
  refine wpAny_bind (seqEpoch_at ho1 rfl ?_)
  refine wpAny_bind (wpAny_newTuple ?_ (by show vs.length ≤ _; rw [sizeLine_eq]; omega))
  refine wpAny_bind (wpAny_newList ?_ (Nat.zero_le _))
  refine wpAny_holding ?_
  have ho6 : (sortIn s.heap a vs).get? a = some (seqObj "list" #[] e1) := by
    rw [Heap.get?_push_ne _ _ _ (by rw [size_push', Heap.size_update]; exact Nat.ne_of_lt (Nat.lt_succ_of_lt ha)), Heap.get?_push_ne _ _ _ (by rw [Heap.size_update]; exact Nat.ne_of_lt ha)]
    exact ho1
  show wpAny (model prog w) A _ P E { s with heap := sortIn s.heap a vs }
  dsimp only
  have hn2 : vs.toArray.size < 2 := by rw [List.size_toArray]; omega
  rw [if_pos hn2, if_pos hn2]
  refine wpAny_bind (wpAny_pure ?_)
  rw [StateT.run_pure]
  refine wpAny_bind (wpAny_pure ?_)
  dsimp only
  have eo : (vs.toArray.zip vs.toArray).map (·.2) = vs.toArray := by
    refine Array.ext (by simp) fun i h1 h2 => ?_
    simp
  refine wpAny_bind (seqEpoch_at ho6 rfl ?_)
  rw [eo]
  refine wpAny_bind (listUpdate_at ho6 rfl ?_ (Nat.zero_le _) (by rw [List.size_toArray, sizeLine_eq]; omega))
  simp only [bne_self_eq_false, Bool.false_eq_true, if_false]
  exact wpAny_pure h
theorem sorted_few {l : Addr} {vs : List Value} {Q : Value → Shared → Prop} (hl : s.heap.IsList l vs.toArray) (h2 : vs.length < 2)
    (h : Q (.ref (s.heap.objs.size + 1)) { s with heap := sortedAll s.heap vs vs.toArray }) : wpAny (model prog w) A (call (.builtin "sorted") [.ref l]) Q E s := by
  refine Calls.call_function_entry kind_sorted plain_sorted entry_sorted (args_sorted1 _) ?_
  unfold Builtin.«sorted»
  refine wpAny_bind (m := checkCount "sorted" 1 1 _) (wpAny_pure ?_)
  refine wpAny_bind (collect_list hl ?_ (by rw [sizeLine_eq]; omega))
  refine wpAny_bind (wpAny_newList ?_ (by rw [sizeLine_eq]; omega))
  have hsz : ((s.heap.push (seqObj "list" #[] 0)).update s.heap.objs.size (Obj.mapSeq (· ++ vs.toArray))).objs.size = s.heap.objs.size + 1 := by
    rw [Heap.size_update, size_push']
  have hoL : (((s.heap.push (seqObj "list" #[] 0)).update s.heap.objs.size (Obj.mapSeq (· ++ vs.toArray))).push (seqObj "list" vs.toArray 0)).get? (s.heap.objs.size + 1) = some (seqObj "list" vs.toArray 0) := by
    rw [← hsz]; exact Heap.get?_push_size _ rfl
  show wpAny _ _ _ _ _ { s with heap := ((s.heap.push (seqObj "list" #[] 0)).update s.heap.objs.size (Obj.mapSeq (· ++ vs.toArray))).push (seqObj "list" vs.toArray 0) }
  rw [hsz]
  refine wpAny_bind (wpAny_holding (wpAny_call_entry slot_list_sort ⟨_, hoL, rfl⟩ entry_list_sort (sort_few (s := { s with heap := ((s.heap.push (seqObj "list" #[] 0)).update s.heap.objs.size (Obj.mapSeq (· ++ vs.toArray))).push (seqObj "list" vs.toArray 0) }) hoL h2 ⟨_, rfl, ?_⟩) (args_list_sort _)))
  exact wpAny_pure ⟨_, rfl, h⟩
end
section
variable {X : Cx}
theorem vals_getD {rs : List V} {its : List Value} (r : Vals rs its) : ∀ (l : List Nat), (∀ i ∈ l, i < rs.length) → Vals (l.map fun i => rs.getD i .non) (l.map fun i => its.getD i .none)
  | [], _ => .nil
  | i :: l, h => by
    have hi : i < rs.length := h i (by simp)
    have e : rs[i]? = some rs[i] := List.getElem?_eq_getElem hi
    obtain ⟨u, hu, ru⟩ := r.get e
    rw [List.map_cons, List.map_cons]
    refine .cons ?_ (vals_getD r l fun j hj => h j (by simp [hj]))
    rw [List.getD, List.getD, e, hu]
    exact ru
end
/-! the question of two tuples of ints -/
def lexI (fin : Bool) : List Int → List Int → Bool
  | x :: xs, y :: ys => if x = y then lexI fin xs ys else decide (x < y)
  | _, _ => fin
def ltI (xs ys : List Int) : Bool := lexI (decide (xs.length < ys.length)) xs ys
section
variable {prog : Program} {w : World} {A : Around} {E : Value → Shared → Prop} {s : Shared}
theorem lex_ints {fin : Bool} {Q : Bool → Shared → Prop} : ∀ {xs ys : List Int} {is js : List Value} (i : Nat), Vals (xs.map V.int) is → Vals (ys.map V.int) js → Q (lexI fin xs ys) s → KatLex prog w A true fin Q (is.zip js) i s
  | [], ys, is, js, i, h1, h2, q => by
    cases h1
    rw [List.zip_nil_left]
    exact kat_nil (by cases ys <;> exact q)
  | x :: xs, [], is, js, i, h1, h2, q => by
    cases h2
    rw [List.zip_nil_right]
    exact kat_nil q
  | x :: xs, y :: ys, is, js, i, h1, h2, q => by
    cases h1 with
    | cons r1 h1 =>
    cases h2 with
    | cons r2 h2 =>
    obtain ⟨t, rfl⟩ := r1
    obtain ⟨t', rfl⟩ := r2
    rw [List.zip_cons_cons]
    refine kat_cons ?_
    refine wpAny_eqBool_int ?_
    unfold lexI at q
    by_cases e : x = y
    · rw [if_pos e] at q
      rw [show (x == y) = true by simp [e]]
      exact kat_yes (lex_ints (i + 1) h1 h2 q)
    · rw [if_neg e] at q
      rw [show (x == y) = false by simp [e]]
      refine kat_no ?_
      cases hb : (true && i == 0) with
      | true => exact oneLt_int q
      | false => exact kat_one _ _ (SeqAt.LtAt.int_int x t y t' prog w _ _ q)
end
theorem map_getD (xss : List (List Int)) : (List.range xss.length).map (fun i => xss.getD i []) = xss := by
  refine List.ext_getElem (by simp) fun i h1 h2 => ?_
  simp [List.getD, h2]
theorem iss_getD {H : Hp} {xss : List (List Int)} {rs : List V} (h : Iss H (xss.map tI) rs) : ∀ (l : List Nat), (∀ i ∈ l, i < xss.length) → Iss H ((l.map fun i => xss.getD i []).map tI) (l.map fun i => rs.getD i .non)
  | [], _ => rfl
  | i :: l, hl => by
    have hi : i < xss.length := hl i (by simp)
    have hr : i < rs.length := by rw [h.length, List.length_map]; exact hi
    refine ⟨_, _, rfl, ?_, iss_getD h l fun j hj => hl j (by simp [hj])⟩
    obtain ⟨d, hd, h1⟩ := h.of_get (List.getElem?_eq_getElem hr)
    rw [List.getElem?_map, List.getElem?_eq_getElem hi] at hd
    cases hd
    show Is H (tI (xss.getD i [])) (rs.getD i .non)
    rw [List.getD_eq_getElem?_getD, List.getD_eq_getElem?_getD, List.getElem?_eq_getElem hi, List.getElem?_eq_getElem hr]
    exact h1
section
variable {X : Cx} {pins : List (Addr × Obj)} {σ : St} {H : Hp} {s : Shared}
theorem kat_tups (I : Inv X pins σ H s) : ∀ {xss : List (List Int)} {rs : List V} {its : List Value}, Iss H (xss.map tI) rs → Vals rs its → (∀ xs ∈ xss, xs ≠ []) → ∃ fs : List Value, KatTups s.heap its fs ∧ fs.length = its.length ∧ ∀ f ∈ fs, ∃ z t, f = Value.int z t
  | [], rs, its, h, r, _ => by
    obtain rfl : rs = [] := h
    cases r
    exact ⟨[], KatTups.nil, rfl, fun _ h => nomatch h⟩
  | xs :: xss, rs, its, h, r, hne => by
    obtain ⟨u, us, rfl, h1, h2⟩ := h
    cases r with
    | cons r1 r2 =>
    rename_i v its
    obtain ⟨fs, k1, k2, k3⟩ := kat_tups I h2 r2 fun ys hy => hne ys (by simp [hy])
    obtain ⟨a, rfl, ha⟩ := of_tI h1
    obtain rfl : v = Value.ref a := r1
    obtain ⟨is, q1, q2, q3⟩ := I.tuple (SqT.of (K := X.K) ha)
    obtain ⟨o, ho, hc, n, hd⟩ := (show s.heap.IsTuple a is.toArray from q2)
    match xs, hne xs (by simp) with
    | x :: xs', _ =>
    cases q1 with
    | cons q0 q1 =>
    obtain ⟨t, rfl⟩ := q0
    refine ⟨.int x t :: fs, KatTups.cons ho hc hd (by simp) k1, by simp [k2], fun f hf => ?_⟩
    rcases List.mem_cons.mp hf with rfl | hf
    · exact ⟨_, _, rfl⟩
    · exact k3 f hf
theorem key_ints (I : Inv X pins σ H s) {a b : Addr} {xs ys : List Int} (h1 : SqT X.K H a (xs.map V.int)) (h2 : SqT X.K H b (ys.map V.int)) {A : Around} {prog : Program} {w : World} {E : Value → Shared → Prop} {Q : Bool → Shared → Prop} (q : Q (ltI xs ys) s) :
    wpAny (model prog w) A (keyLt' (tuples' true) (.ref a) (.ref b)) Q E s := by
  obtain ⟨is, r1, p1, z1⟩ := I.tuple h1
  obtain ⟨js, r2, p2, z2⟩ := I.tuple h2
  obtain ⟨o1, ho1, hc1, n1, hd1⟩ := (show s.heap.IsTuple a is.toArray from p1)
  obtain ⟨o2, ho2, hc2, n2, hd2⟩ := (show s.heap.IsTuple b js.toArray from p2)
  refine kat_lt ho1 hd1 ho2 hd2 ?_
  have l1 : is.toArray.size = xs.length := by have := r1.length; simp at this ⊢; omega
  have l2 : js.toArray.size = ys.length := by have := r2.length; simp at this ⊢; omega
  rw [l1, l2]
  exact lex_ints 0 r1 r2 q
end
end L2
/-! ### x in xs, xs.index(x), by what == tells of each item -/
namespace L2
open PySem PySem.Spec PyProof.Rows
/-- each item is an object, and == tells es of it and x -/
def Told1 (K : PySem.W.Frag) (H : Hp) (n : Nat) (xs : List V) (x : V) (es : Nat → Bool) : Prop := n ≤ 8 ∧ (∀ (j : Nat) z, xs[j]? = some z → (∃ a, z = .ref a) ∧ EqR K H n z x (es j)) ∧ ∀ (i j : Nat) z, xs[i]? = some z → xs[j]? = some z → es i = es j
section
variable {X : Cx} {pins : List (Addr × Obj)} {σ : St} {H : Hp} {s : Shared}
open Classical in
noncomputable def eTold (its : List Value) (es : Nat → Bool) (u : Value) : Bool := decide (∃ j : Nat, its[j]? = some u ∧ es j = true)
end
section
variable {X : Cx}
end
end L2
/-! ### max(xs, default=d), xs a list of ints -/
namespace L2
open PySem PySem.Spec PyProof.Rows PyProof
section
variable {prog : Program} {w : World} {A : Around} {R : Result → Shared → Prop} {I : Addr} {fp wr : List Addr} {n : Nat} {P : Nat → Value → Prop} {St : Nat → Heap → Prop} {nm : Str} {dv : Value}
/-- the turns behind the first one -/
theorem mxd_more (W : Walks prog w A.in1 I fp wr n P St) (bt : Nat → Nat → Bool) (hc : CmpOf prog w A.in1 .Gt P bt) (S : Addr) (nS : S ∉ fp) :
    ∀ (m i : Nat) (s : Shared) (u : Value) (c : Nat), n - (i + 1) = m → i + 1 ≤ n → St (i + 1) s.heap → P (argBest bt i) u →
    s.heap.get? S = some { cls := .type "list", dict := none, data := .seq #[u, u] c, slots := #[] } →
    (∀ v h2 t2, P (argBest bt (n - 1)) v → (∀ b o, b ∉ wr → b ≠ S → s.heap.get? b = some o → h2.get? b = some o) → R (.ok (.ret v)) { s with heap := h2, toks := t2 }) →
    codeAny (model prog w) A (.builtin "max.loop" ⟨[.ref I, .none, .ref S], [(nm, dv)]⟩) R s := by
  have nSw : S ∉ wr := fun z => nS (W.sub _ z)
  have en : (toString "max" ++ toString ".loop" : String) = "max.loop" := by decide
  intro m
  induction m with
  | zero =>
    intro i s u c e1 e2 st pu hS q
    have ei : i + 1 = n := by omega
    refine codeAny_builtin F.entry_max_loop ?_
    rw [Around.under_plainId F.plain_max_loop _]
    show wpAny _ A.in1 (seqItems? (.ref S) >>= _) _ _ s
    refine wpAny_bind (wpAny_seqItems hS rfl ?_)
    show wpAny _ A.in1 (tryCatch (pyNext (.ref I)) _ >>= _) _ _ s
    refine wpAny_bind (wpAny_tryCatch (W.done s _ _ (ei ▸ st) fun h2 t2 k2 => ?_))
    have hS2 := k2 S _ nSw hS
    show wpAny _ A.in1 (updateSeq S (fun _ => #[]) >>= _) _ _ _
    refine wpAny_bind ?_
    refine wpAny_updateSeq hS2 rfl (wpAny_bind (wpAny_letGo (wpAny_pure ?_)))
    refine q u _ t2 (by rw [← ei]; exact pu) fun b o b1 b2 e => (Heap.get?_update_other _ _ (Ne.symm b2)).trans (k2 b o b1 e)
  | succ m ih =>
    intro i s u c e1 e2 st pu hS q
    have li : i + 1 < n := by omega
    refine codeAny_builtin F.entry_max_loop ?_
    rw [Around.under_plainId F.plain_max_loop _]
    show wpAny _ A.in1 (seqItems? (.ref S) >>= _) _ _ s
    refine wpAny_bind (wpAny_seqItems hS rfl ?_)
    show wpAny _ A.in1 (tryCatch (pyNext (.ref I)) _ >>= _) _ _ s
    refine wpAny_bind (wpAny_tryCatch (W.item (i + 1) s _ _ li st fun v h2 t2 pv st2 k2 => ?_))
    have hS2 := k2 S _ nSw hS
    show wpAny _ A.in1 (tryCatch (holding [v, v] (richCompare .Gt v u >>= _)) _ >>= _) _ _ _
    refine wpAny_bind (wpAny_tryCatch (wpAny_holding (wpAny_bind (hc (i + 1) (argBest bt i) v u _ _ _ pv pu ?_))))
    refine wpAny_bind (wpAny_holding (wpAny_truthy_bool ?_))
    refine wpAny_bind (wpAny_letGo (wpAny_pure ?_))
    cases hb : bt (i + 1) (argBest bt i) with
    | true =>
      simp only [if_true]
      refine wpAny_bind ?_
      refine wpAny_updateSeq hS2 rfl (wpAny_bind (wpAny_letGo ?_))
      rw [en]
      refine wpAny_pure ⟨plainId_quiet F.plain_max_loop _, ih (i + 1) _ v _ (by omega) li (W.frame _ _ _ st2 fun b b1 o e => ?_) (by simp only [argBest, hb, if_true]; exact pv) (Heap.get?_update_self _ hS2 rfl) fun v3 h3 t3 p3 k3 => ?_⟩
      · exact (Heap.get?_update_other _ _ (fun z : S = b => nS (by rw [z]; exact b1))).trans e
      · exact q v3 h3 t3 p3 fun b o b1 b2 e => k3 b o b1 b2 ((Heap.get?_update_other _ _ (Ne.symm b2)).trans (k2 b o b1 e))
    | false =>
      simp only [Bool.false_eq_true, if_false]
      refine wpAny_bind (wpAny_letGo ?_)
      rw [en]
      refine wpAny_pure ⟨plainId_quiet F.plain_max_loop _, ih (i + 1) _ u c (by omega) li st2 (by simp only [argBest, hb, Bool.false_eq_true, if_false]; exact pu) hS2 fun v3 h3 t3 p3 k3 => ?_⟩
      exact q v3 h3 t3 p3 fun b o b1 b2 e => k3 b o b1 b2 (k2 b o b1 e)
/-- the first turn: the given one where there is none -/
theorem mxd_first (W : Walks prog w A.in1 I fp wr n P St) (bt : Nat → Nat → Bool) (hc : CmpOf prog w A.in1 .Gt P bt) (S : Addr) (nS : S ∉ fp) {s : Shared} {c : Nat} (st : St 0 s.heap)
    (hS : s.heap.get? S = some { cls := .type "list", dict := none, data := .seq #[] c, slots := #[] })
    (q : ∀ v h2 t2, (0 < n → P (argBest bt (n - 1)) v) → (n = 0 → v = dv) → (∀ b o, b ∉ wr → b ≠ S → s.heap.get? b = some o → h2.get? b = some o) → R (.ok (.ret v)) { s with heap := h2, toks := t2 }) :
    codeAny (model prog w) A (.builtin "max.loop" ⟨[.ref I, .none, .ref S], [(nm, dv)]⟩) R s := by
  have nSw : S ∉ wr := fun z => nS (W.sub _ z)
  have en : (toString "max" ++ toString ".loop" : String) = "max.loop" := by decide
  refine codeAny_builtin F.entry_max_loop ?_
  rw [Around.under_plainId F.plain_max_loop _]
  show wpAny _ A.in1 (seqItems? (.ref S) >>= _) _ _ s
  refine wpAny_bind (wpAny_seqItems hS rfl ?_)
  show wpAny _ A.in1 (tryCatch (pyNext (.ref I)) _ >>= _) _ _ s
  by_cases h0 : n = 0
  · refine wpAny_bind (wpAny_tryCatch (W.done s _ _ (by rw [h0]; exact st) fun h2 t2 k2 => ?_))
    show wpAny _ A.in1 (rule (toString "max" ++ toString ".default") >>= _) _ _ _
    refine wpAny_bind (wpAny_rule ?_)
    exact wpAny_pure (q dv _ t2 (fun z => absurd z (by omega)) (fun _ => rfl) fun b o b1 b2 e => k2 b o b1 e)
  · refine wpAny_bind (wpAny_tryCatch (W.item 0 s _ _ (by omega) st fun v h2 t2 pv st2 k2 => ?_))
    have hS2 := k2 S _ nSw hS
    show wpAny _ A.in1 (updateSeq S (fun _ => #[v, v]) >>= _) _ _ _
    refine wpAny_bind ?_
    refine wpAny_updateSeq hS2 rfl ?_
    rw [en]
    refine wpAny_pure ⟨plainId_quiet F.plain_max_loop _, mxd_more W bt hc S nS _ 0 _ v _ rfl (by omega) (W.frame _ _ _ st2 fun b b1 o e => ?_) pv (Heap.get?_update_self _ hS2 rfl) fun v3 h3 t3 p3 k3 => ?_⟩
    · exact (Heap.get?_update_other _ _ (fun z : S = b => nS (by rw [z]; exact b1))).trans e
    · exact q v3 h3 t3 (fun _ => p3) (fun z => absurd z h0) fun b o b1 b2 e => k3 b o b1 b2 ((Heap.get?_update_other _ _ (Ne.symm b2)).trans (k2 b o b1 e))
end
section
variable {prog : Program} {w : World} {A : Around} {E : Value → Shared → Prop} {s : Shared}
theorem args_mxd (a v : Value) : argsOk "max" ⟨[a], [(Str.ofString "default", v)]⟩ := by unfold argsOk; kernel_rfl
theorem mxd_ints {l : Addr} {ys : Array (Int × Tok)} {dv : Value} {Q : Value → Shared → Prop} (hh : A.handled = none) (hl : s.heap.IsList l (intItems ys))
    (q : ∀ v h2 t2, (0 < ys.size → (intItems ys)[argBest (fun i j => decide (numAt ys i > numAt ys j)) (ys.size - 1)]? = some v) → (ys.size = 0 → v = dv) → (∀ b o, s.heap.get? b = some o → h2.get? b = some o) → Q v { s with heap := h2, toks := t2 }) :
    wpAny (model prog w) A (call (.builtin "max") [.ref l] [(Str.ofString "default", dv)]) Q E s := by
  have en : (toString "max" ++ toString ".loop" : String) = "max.loop" := by decide
  refine kmb_tree F.kind_max F.plain_max F.entry_max (args_mxd _ _) ?_
  show wpAny _ A.in1 (Builtin.Builtins.bindParams "max" ["key", "default"] 0 ⟨[], [(Str.ofString "default", dv)]⟩ >>= _) _ _ s
  refine wpAny_bind (wpAny_of_eq (show Builtin.Builtins.bindParams "max" ["key", "default"] 0 ⟨[], [(Str.ofString "default", dv)]⟩ = pure [none, some dv] from rfl) ?_)
  refine wpAny_bind (wpAny_pure ?_)
  refine wpAny_bind (iter_intList hl fun s2 e st hfp hlI => ?_)
  subst e
  refine wpAny_bind (wpAny_newObj_type ?_)
  rw [en]
  have hW := Walks.list (prog := prog) (w := w) (A := A.in1) hh s.heap.objs.size l hlI (intItems ys)
  have sz : (intItems ys).size = ys.size := by simp [intItems]
  refine wpAny_pure ⟨plainId_quiet F.plain_max_loop _, mxd_first hW _ (CmpOf.ints_gt (numAt ys) fun _ _ => intItems_at) _ (fun z => Nat.lt_irrefl _ (hfp _ z)) (hW.frame _ _ _ st fun b _ o e => Heap.get?_push_of_some _ e) (Heap.get?_push_size _ rfl) fun v h2 t2 a1 a2 k2 => ?_⟩
  refine q v h2 t2 (fun z => ?_) (fun z => a2 (by rw [sz]; exact z)) (old_kept fun b o b1 e => k2 b o b1 (Nat.ne_of_lt (Heap.lt_size e)) (Heap.get?_push_of_some _ e))
  have := a1 (by rw [sz]; exact z)
  rwa [sz] at this
end
section
variable {X : Cx} {e e2 : Expr} {p pos kpos : Pos} {ta tk : TA}
/-- max(xs, default=d) -/
def tMaxD (K : PySem.W.Frag) (ta tk : TA) : TE := fun σ H Q => ta σ H fun xs H1 => tk σ H1 fun ys H2 => ∃ (p : Addr) (ns : List Int) (d : Int), xs = [.ref p] ∧ ys = [.int d] ∧ SqL K H2 p (ns.map V.int) ∧ Q (.int (if ns.length = 0 then d else maxL ns)) H2
theorem pe_maxd (hc : X.calm = true) (hg : Gl X "max") (hm : X.mg "max" = none) (ha : PA X [e] ta) (hk : PK X [⟨some "default", e2, kpos⟩] tk) (he : starEach [e] X.env = [(false, eval e X.env)] := by rfl) :
    PE X (.Call (.Name "max" p) [e] [⟨some "default", e2, kpos⟩] pos) (tMaxD X.K ta tk) := by
  intro pins s σ H Q I h
  refine wpAny_Call_Name_kw (ld_blt I hg hm boot_max ?_ (by decide) (by decide))
  refine callWith_kw (thn (ha pos pins s σ H _ I h) fun us s1 ⟨vs, H1, I1, r1, q1⟩ => thn (hk pos pins s1 σ H1 _ I1 q1) fun us2 s2 ⟨vs2, H2, I2, r2, q2⟩ => ?_) (by rw [he]; rfl) (by rw [he]; rfl) (by rfl) (by rfl)
  obtain ⟨l, ns, d, rfl, rfl, hq, q⟩ := q2
  obtain ⟨u, rfl, rx⟩ := vals1 r1
  obtain ⟨u2, rfl, ry⟩ := vals1 r2
  cases rx
  obtain ⟨t, rfl⟩ := ry
  obtain ⟨its, r', pl, hz⟩ := I2.list hq
  have hi : IntsAre its ns := intsAre_of r'
  obtain ⟨ys, e⟩ := hi.allInts.items
  have n1 := hi.numsOf
  rw [show its = its.toArray.toList from rfl, e, nums_intItems] at n1
  have hsz : ys.size = ns.length := by rw [← n1]; simp
  have hl := pl.isList
  rw [e] at hl
  show wpAny _ _ (call (.builtin "max") [.ref l] [(Str.ofString "default", .int d t)]) _ _ s2
  refine mxd_ints (I2.ok.hd hc) hl fun v h' tk hv hd hk => ?_
  by_cases h0 : ns.length = 0
  · rw [if_pos h0] at q
    rw [hd (by omega)]
    exact ⟨.int d, H2, I2.kept hk, ⟨t, rfl⟩, q⟩
  · rw [if_neg h0] at q
    obtain ⟨t', rfl⟩ := intItems_at (hv (by omega))
    refine ⟨.int (maxL ns), H2, I2.kept hk, ⟨t', ?_⟩, q⟩
    unfold maxL
    rw [numAt_of n1, hsz]
    simp only [numAt_of n1]
end
end L2
/-! ### the kit's tree of a sort of fewer than 64 items: where each question is answered by an order, its end is sorted -/
namespace L2
open PySem PySem.Spec PyProof.Rows PySem.W
/-- the tree walked with the answers c -/
def krun (c : Nat → Nat → Bool) {α : Type} : KasT α → α
  | .ret a => a
  | .ask i j k => krun c (k (c i j))
theorem krun_bind {c : Nat → Nat → Bool} {α β : Type} {f : α → KasT β} : ∀ (t : KasT α), krun c (t.bind f) = krun c (f (krun c t))
  | .ret _ => rfl
  | .ask i j k => krun_bind (k (c i j))
/-- what an order keeps: not less the other way round, told on -/
structure Ordr (c : Nat → Nat → Bool) : Prop where
  asym : ∀ a b, c a b = true → c b a = false
  tr : ∀ a b d, c b a = false → c d b = false → c d a = false
section
variable {c : Nat → Nat → Bool}
abbrev at0 (p : Array Nat) (i : Nat) : Nat := p.getD i 0
/-- the first m, none less than one ahead of it -/
def Up (c : Nat → Nat → Bool) (p : Array Nat) (m : Nat) : Prop := ∀ i j, i < j → j < m → c (at0 p j) (at0 p i) = false
def Dn (c : Nat → Nat → Bool) (p : Array Nat) (m : Nat) : Prop := ∀ i j, i < j → j < m → c (at0 p i) (at0 p j) = false
theorem Up.more (O : Ordr c) {p : Array Nat} {m : Nat} (h : Up c p m) (hm : 0 < m) (e : c (at0 p m) (at0 p (m - 1)) = false) : Up c p (m + 1) := by
  intro i j hij hj
  by_cases hjm : j < m
  · exact h i j hij hjm
  · obtain rfl : j = m := by omega
    by_cases hi : i = j - 1
    · subst hi; exact e
    · exact O.tr _ _ _ (h i (j - 1) (by omega) (by omega)) e
theorem Dn.more (O : Ordr c) {p : Array Nat} {m : Nat} (h : Dn c p m) (hm : 0 < m) (e : c (at0 p (m - 1)) (at0 p m) = false) : Dn c p (m + 1) := by
  intro i j hij hj
  by_cases hjm : j < m
  · exact h i j hij hjm
  · obtain rfl : j = m := by omega
    by_cases hi : i = j - 1
    · subst hi; exact e
    · exact O.tr _ _ _ e (h i (j - 1) (by omega) (by omega))
theorem krun_asc (O : Ordr c) {p : Array Nat} : ∀ (f m : Nat), 0 < m → Up c p m → m ≤ krun c (kas_asc p f m) ∧ krun c (kas_asc p f m) ≤ m + f ∧ Up c p (krun c (kas_asc p f m)) ∧ (krun c (kas_asc p f m) < m + f → c (at0 p (krun c (kas_asc p f m))) (at0 p (krun c (kas_asc p f m) - 1)) = true)
  | 0, m, hm, h => ⟨Nat.le_refl _, Nat.le_refl _, h, fun z => absurd z (Nat.lt_irrefl _)⟩
  | f + 1, m, hm, h => by
    unfold kas_asc krun
    cases e : c (p.getD m 0) (p.getD (m - 1) 0) with
    | true =>
      dsimp only
      rw [if_pos rfl]
      exact ⟨Nat.le_refl _, by show m ≤ _; omega, h, fun _ => e⟩
    | false =>
      dsimp only
      rw [if_neg (by decide)]
      obtain ⟨h1, h2, h3, h4⟩ := krun_asc O f (m + 1) (by omega) (h.more O hm e)
      exact ⟨by omega, by omega, h3, fun z => h4 (by omega)⟩
theorem rev_at {p : Array Nat} {i j : Nat} (hj : j ≤ p.size) (k : Nat) : at0 (kas_rev p i j) k = if i ≤ k ∧ k < j then at0 p (i + j - 1 - k) else at0 p k := by
  have h := getElem?_mirror_all (xs := p) (i := i) hj k
  have e : ∀ q : Array Nat, ∀ k, at0 q k = (q[k]?).getD 0 := fun q k => by simp [at0, Array.getD]; split <;> simp [*]
  rw [e, e, e]
  unfold kas_rev
  rw [h]
  split <;> rfl
theorem rev_size (p : Array Nat) (i j : Nat) : (kas_rev p i j).size = p.size := mirror_size _ _ _ _
theorem Dn.rev_all {p : Array Nat} {m : Nat} (h : Dn c p m) (hm : m ≤ p.size) : Up c (kas_rev p 0 m) m := by
  intro i j hij hj
  rw [rev_at hm, rev_at hm, if_pos ⟨by omega, hj⟩, if_pos ⟨by omega, by omega⟩]
  exact h _ _ (by omega) (by omega)
theorem Up.rev_all {p : Array Nat} {m : Nat} (h : Up c p m) (hm : m ≤ p.size) : Dn c (kas_rev p 0 m) m := by
  intro i j hij hj
  rw [rev_at hm, rev_at hm, if_pos ⟨by omega, by omega⟩, if_pos ⟨by omega, hj⟩]
  exact h _ _ (by omega) (by omega)
/-- the block of like ones at the end may be turned -/
theorem Dn.rev_blk {p : Array Nat} {m q : Nat} (h : Dn c p m) (hm : m ≤ p.size) (hq : q + 1 ≤ m) (hb : ∀ i j, m - (q + 1) ≤ i → i < m → m - (q + 1) ≤ j → j < m → c (at0 p i) (at0 p j) = false) : Dn c (kas_rev p (m - (q + 1)) m) m := by
  intro i j hij hj
  rw [rev_at hm, rev_at hm]
  by_cases h1 : m - (q + 1) ≤ i
  · rw [if_pos ⟨h1, by omega⟩, if_pos ⟨by omega, hj⟩]
    exact hb _ _ (by omega) (by omega) (by omega) (by omega)
  · rw [if_neg (by omega)]
    by_cases h2 : m - (q + 1) ≤ j
    · rw [if_pos ⟨h2, hj⟩]
      exact h _ _ (by omega) (by omega)
    · rw [if_neg (by omega)]
      exact h _ _ hij hj
/-- the q + 1 at the end are alike -/
def Blk (c : Nat → Nat → Bool) (p : Array Nat) (m q : Nat) : Prop := q + 1 ≤ m ∧ ∀ i j, m - (q + 1) ≤ i → i < m → m - (q + 1) ≤ j → j < m → c (at0 p i) (at0 p j) = false
theorem krun_desc (O : Ordr c) : ∀ (f : Nat) (p : Array Nat) (m q : Nat), m + f ≤ p.size → 0 < m → Dn c p m → Blk c p m q → ∀ r, r = krun c (kas_desc f p m q) → r.1.size = p.size ∧ m ≤ r.2.1 ∧ r.2.1 ≤ m + f ∧ Dn c r.1 r.2.1 ∧ Blk c r.1 r.2.1 r.2.2
  | 0, p, m, q, _, _, hd, hb, r, e => by
    subst e
    exact ⟨rfl, Nat.le_refl _, Nat.le_refl _, hd, hb⟩
  | f + 1, p, m, q, hs, hm, hd, hb, r, e => by
    unfold kas_desc krun at e
    cases e1 : c (p.getD m 0) (p.getD (m - 1) 0) with
    | true =>
      rw [e1] at e
      dsimp only at e
      rw [if_pos rfl] at e
      have e2 := O.asym _ _ e1
      by_cases hq : q > 0
      · rw [if_pos hq] at e
        have hd2 := hd.rev_blk (by omega) hb.1 hb.2
        have at_m : at0 (kas_rev p (m - (q + 1)) m) m = at0 p m := by rw [rev_at (by omega), if_neg (by omega)]
        have at_m1 : at0 (kas_rev p (m - (q + 1)) m) (m - 1) = at0 p (m - (q + 1) + m - 1 - (m - 1)) := by rw [rev_at (by omega), if_pos ⟨by have := hb.1; omega, by omega⟩]
        have e3 : c (at0 (kas_rev p (m - (q + 1)) m) (m - 1)) (at0 (kas_rev p (m - (q + 1)) m) m) = false := by
          rw [at_m, at_m1]
          have b1 := hb.1
          exact O.tr _ _ _ e2 (hb.2 _ (m - 1) (by omega) (by omega) (by omega) (by omega))
        have hd3 := hd2.more O hm e3
        have hb3 : Blk c (kas_rev p (m - (q + 1)) m) (m + 1) 0 := ⟨by omega, fun i j h1 h2 h3 h4 => by
          obtain rfl : i = m := by omega
          obtain rfl : j = i := by omega
          cases h : c (at0 (kas_rev p (j - (q + 1)) j) j) (at0 (kas_rev p (j - (q + 1)) j) j) with
          | false => rfl
          | true => have := O.asym _ _ h; rw [h] at this; cases this⟩
        obtain ⟨r1, r2, r3, r4, r5⟩ := krun_desc O f _ (m + 1) 0 (by rw [rev_size]; omega) (by omega) hd3 hb3 r e
        exact ⟨by rw [r1, rev_size], by omega, by omega, r4, r5⟩
      · rw [if_neg hq] at e
        have hd3 := hd.more O hm e2
        have hb3 : Blk c p (m + 1) 0 := ⟨by omega, fun i j h1 h2 h3 h4 => by
          obtain rfl : i = m := by omega
          obtain rfl : j = i := by omega
          cases h : c (at0 p j) (at0 p j) with
          | false => rfl
          | true => have := O.asym _ _ h; rw [h] at this; cases this⟩
        obtain ⟨r1, r2, r3, r4, r5⟩ := krun_desc O f _ (m + 1) 0 (by omega) (by omega) hd3 hb3 r e
        exact ⟨r1, by omega, by omega, r4, r5⟩
    | false =>
      rw [e1] at e
      dsimp only at e
      rw [if_neg (by decide)] at e
      unfold krun at e
      cases e2 : c (p.getD (m - 1) 0) (p.getD m 0) with
      | true =>
        rw [e2] at e
        dsimp only at e
        rw [if_pos rfl] at e
        subst e
        exact ⟨rfl, Nat.le_refl _, by show m ≤ _; omega, hd, hb⟩
      | false =>
        rw [e2] at e
        dsimp only at e
        rw [if_neg (by decide)] at e
        have hd3 := hd.more O hm e2
        have b1 := hb.1
        have hb3 : Blk c p (m + 1) (q + 1) := ⟨by omega, fun i j h1 h2 h3 h4 => by
          by_cases hi : i = m
          · by_cases hj : j = m
            · subst hi; subst hj
              cases h : c (at0 p j) (at0 p j) with
              | false => rfl
              | true => have := O.asym _ _ h; rw [h] at this; cases this
            · subst hi
              exact O.tr _ _ _ (hb.2 _ _ (by omega) (by omega) (by omega) (by omega)) e1
          · by_cases hj : j = m
            · subst hj
              exact O.tr _ _ _ e2 (hb.2 _ _ (by omega) (by omega) (by omega) (by omega))
            · exact hb.2 _ _ (by omega) (by omega) (by omega) (by omega)⟩
        obtain ⟨r1, r2, r3, r4, r5⟩ := krun_desc O f _ (m + 1) (q + 1) (by omega) (by omega) hd3 hb3 r e
        exact ⟨r1, by omega, by omega, r4, r5⟩
theorem krun_tail (O : Ordr c) {p : Array Nat} {m n : Nat} (hn : n ≤ p.size) (hm : m ≤ n) (h0 : 0 < m) (hd : Dn c p m) : ∀ r, r = krun c (kas_tail3 m n p) → r.2.size = p.size ∧ 0 < r.1 ∧ r.1 ≤ n ∧ Up c r.2 r.1 := by
  intro r e
  unfold kas_tail3 at e
  rw [krun_bind] at e
  subst e
  obtain ⟨h1, h2, h3, _⟩ := krun_asc O (n - m) m h0 (hd.rev_all (by omega))
  exact ⟨rev_size _ _ _, by show 0 < krun c _; omega, by show krun c _ ≤ n; omega, h3⟩
theorem krun_part (O : Ordr c) {p : Array Nat} {m n : Nat} (hn : n ≤ p.size) (hm : m < n) (h0 : 0 < m) (hd : Dn c p m) (e : c (at0 p m) (at0 p (m - 1)) = true) : ∀ r, r = krun c (kas_descPart m n p) → r.2.size = p.size ∧ 0 < r.1 ∧ r.1 ≤ n ∧ Up c r.2 r.1 := by
  intro r er
  unfold kas_descPart at er
  rw [krun_bind] at er
  have hd1 := hd.more O h0 (O.asym _ _ e)
  have hb1 : Blk c p (m + 1) 0 := ⟨by omega, fun i j h1 h2 h3 h4 => by
    obtain rfl : i = m := by omega
    obtain rfl : j = i := by omega
    cases h : c (at0 p j) (at0 p j) with
    | false => rfl
    | true => have := O.asym _ _ h; rw [h] at this; cases this⟩
  obtain ⟨r1, r2, r3, r4, r5⟩ := krun_desc O (n - (m + 1)) p (m + 1) 0 (by omega) (by omega) hd1 hb1 _ rfl
  generalize krun c (kas_desc (n - (m + 1)) p (m + 1) 0) = d at *
  split at er
  · obtain ⟨t1, t2, t3, t4⟩ := krun_tail O (p := kas_rev d.1 (d.2.1 - (d.2.2 + 1)) d.2.1) (m := d.2.1) (n := n) (by rw [rev_size]; omega) (by omega) (by omega) (r4.rev_blk (by omega) r5.1 r5.2) r er
    exact ⟨by rw [t1, rev_size, r1], t2, t3, t4⟩
  · obtain ⟨t1, t2, t3, t4⟩ := krun_tail O (p := d.1) (m := d.2.1) (n := n) (by omega) (by omega) (by omega) r4 r er
    exact ⟨by rw [t1, r1], t2, t3, t4⟩
theorem krun_count (O : Ordr c) {p : Array Nat} {n : Nat} (hn : n ≤ p.size) (h0 : 0 < n) : ∀ r, r = krun c (kas_count n p) → r.2.size = p.size ∧ 0 < r.1 ∧ r.1 ≤ n ∧ Up c r.2 r.1 := by
  intro r er
  unfold kas_count at er
  rw [krun_bind] at er
  obtain ⟨h1, h2, h3, h4⟩ := krun_asc O (p := p) (n - 1) 1 (by decide) (fun i j a b => absurd b (by omega))
  generalize krun c (kas_asc p (n - 1) 1) = m at *
  by_cases hm : m = n
  · subst hm
    rw [if_pos (by simp)] at er
    subst er
    exact ⟨rfl, h0, Nat.le_refl _, h3⟩
  · rw [if_neg (by simp [hm])] at er
    have st := h4 (by omega)
    by_cases h5 : m > 1
    · rw [if_pos h5] at er
      unfold krun at er
      cases e1 : c (p.getD 0 0) (p.getD (m - 1) 0) with
      | true =>
        rw [e1] at er
        dsimp only at er
        rw [if_pos rfl] at er
        subst er
        exact ⟨rfl, by show 0 < m; omega, by show m ≤ n; omega, h3⟩
      | false =>
        rw [e1] at er
        dsimp only at er
        rw [if_neg (by decide)] at er
        have hd := h3.rev_all (by omega : m ≤ p.size)
        obtain ⟨t1, t2, t3, t4⟩ := krun_part O (p := kas_rev p 0 m) (m := m) (n := n) (by rw [rev_size]; exact hn) (by omega) (by omega) hd (by
          rw [rev_at (by omega), rev_at (by omega), if_neg (by omega), if_pos ⟨by omega, by omega⟩, show 0 + m - 1 - (m - 1) = 0 by omega]
          cases h : c (at0 p m) (at0 p 0) with
          | true => rfl
          | false => have := O.tr _ _ _ e1 h; rw [st] at this; cases this) r er
        exact ⟨by rw [t1, rev_size], t2, t3, t4⟩
    · rw [if_neg h5] at er
      obtain rfl : m = 1 := by omega
      exact krun_part O hn (by omega) (by decide) (fun i j a b => absurd b (by omega)) st r er
theorem krun_place (O : Ordr c) {p : Array Nat} {k : Nat} (hu : Up c p k) : ∀ (f l r : Nat), r - l ≤ f → l ≤ r → r ≤ k → (∀ i, i < l → c (at0 p k) (at0 p i) = false) → (∀ i, r ≤ i → i < k → c (at0 p k) (at0 p i) = true) →
    krun c (kas_place p k f l r) ≤ k ∧ (∀ i, i < krun c (kas_place p k f l r) → c (at0 p k) (at0 p i) = false) ∧ (∀ i, krun c (kas_place p k f l r) ≤ i → i < k → c (at0 p k) (at0 p i) = true)
  | 0, l, r, hf, hl, hr, h1, h2 => by
    obtain rfl : l = r := by omega
    exact ⟨hr, h1, h2⟩
  | f + 1, l, r, hf, hl, hr, h1, h2 => by
    unfold kas_place
    by_cases h : l ≥ r
    · rw [if_pos h]
      obtain rfl : l = r := by omega
      exact ⟨hr, h1, h2⟩
    · rw [if_neg h]
      unfold krun
      cases e : c (p.getD k 0) (p.getD ((l + r) / 2) 0) with
      | true =>
        dsimp only
        rw [if_pos rfl]
        refine krun_place O hu f l ((l + r) / 2) (by omega) (by omega) (by omega) h1 fun i a b => ?_
        by_cases hi : i = (l + r) / 2
        · subst hi; exact e
        · cases q : c (at0 p k) (at0 p i) with
          | true => rfl
          | false => have := O.tr _ _ _ (hu ((l + r) / 2) i (by omega) b) q; rw [e] at this; cases this
      | false =>
        dsimp only
        rw [if_neg (by decide)]
        refine krun_place O hu f ((l + r) / 2 + 1) r (by omega) (by omega) hr (fun i a => ?_) h2
        by_cases hi : i = (l + r) / 2
        · subst hi; exact e
        · exact O.tr _ _ _ (hu i ((l + r) / 2) (by omega) (by omega)) e
theorem bub_at {p : Array Nat} {k d : Nat} (hk : k < p.size) (hd : d ≤ k) (i : Nat) : at0 (bubble p k d) i = if i = k - d then at0 p k else if k - d < i ∧ i ≤ k then at0 p (i - 1) else at0 p i := by
  have h := getElem?_bubble hk d hd i
  have e : ∀ q : Array Nat, ∀ k, at0 q k = (q[k]?).getD 0 := fun q k => by simp [at0, Array.getD]; split <;> simp [*]
  rw [e, e, e, e, h]
  split
  · rfl
  · split <;> rfl
theorem krun_bin (O : Ordr c) : ∀ (f : Nat) (p : Array Nat) (k : Nat), 0 < k → k + f ≤ p.size → Up c p k → Up c (krun c (kas_bin f p k)) (k + f)
  | 0, p, k, _, _, h => h
  | f + 1, p, k, h0, hs, hu => by
    unfold kas_bin
    rw [krun_bind]
    obtain ⟨a1, a2, a3⟩ := krun_place O hu k 0 k (by omega) (by omega) (Nat.le_refl _) (fun i z => absurd z (by omega)) (fun i z1 z2 => absurd z2 (by omega))
    generalize krun c (kas_place p k k 0 k) = l at *
    have hu2 : Up c (bubble p k (k - l)) (k + 1) := by
      intro i j hij hj
      rw [bub_at (by omega) (by omega), bub_at (by omega) (by omega), show k - (k - l) = l by omega]
      by_cases j1 : j = l
      · rw [if_pos j1, if_neg (by omega), if_neg (by omega)]
        exact a2 i (by omega)
      · rw [if_neg j1]
        by_cases j2 : l < j ∧ j ≤ k
        · rw [if_pos j2]
          by_cases i1 : i = l
          · rw [if_pos i1]
            exact O.asym _ _ (a3 (j - 1) (by omega) (by omega))
          · rw [if_neg i1]
            by_cases i2 : l < i ∧ i ≤ k
            · rw [if_pos i2]; exact hu _ _ (by omega) (by omega)
            · rw [if_neg i2]; exact hu _ _ (by omega) (by omega)
        · rw [if_neg j2, if_neg (by omega), if_neg (by omega)]
          exact hu _ _ hij (by omega)
    have := krun_bin O f (bubble p k (k - l)) (k + 1) (by omega) (by rw [bubble_size]; omega) hu2
    rw [show k + (f + 1) = k + 1 + f by omega]
    exact this
/-- the whole sort -/
theorem krun_sort (O : Ordr c) {n : Nat} (h0 : 0 < n) : Up c (krun c (kas_sort n)) n := by
  unfold kas_sort
  rw [krun_bind]
  obtain ⟨r1, r2, r3, r4⟩ := krun_count O (p := List.toArray (List.range n)) (n := n) (by simp) h0 _ rfl
  generalize krun c (kas_count n (List.toArray (List.range n))) = r at *
  have sz : r.2.size = n := by rw [r1]; simp
  by_cases h : r.1 < n
  · rw [if_pos h]
    have em : max r.1 1 = r.1 := by omega
    rw [em]
    have := krun_bin O (n - r.1) r.2 r.1 r2 (by omega) r4
    rw [show r.1 + (n - r.1) = n by omega] at this
    exact this
  · rw [if_neg h]
    have : r.1 = n := by omega
    rw [this] at r4
    exact r4
end
end L2
/-! ### sorted(xs), xs a list of tuples of ints of one length: the sorted list -/
namespace L2
open PySem PySem.Spec PyProof.Rows PySem.W
theorem Leaves.wpc {n : Nat} {c : Nat → Nat → Bool} {α : Type} {R : α → Prop} {cmp : Nat → Nat → (Bool → Shared → Prop) → Shared → Prop} {Q : α → Shared → Prop} {s : Shared} (hc : ∀ i j, i < n → j < n → ∀ C : Bool → Shared → Prop, C (c i j) s → cmp i j C s) : ∀ {t : KasT α}, (R (krun c t) → Q (krun c t) s) → Leaves n R t → t.kasWp cmp Q s
  | .ret a, hq, h => hq h
  | .ask i j k, hq, h => hc i j h.1 h.2.1 _ (Leaves.wpc hc (t := k (c i j)) hq (h.2.2 (c i j)))
theorem lexI_le : ∀ {xs ys zs : List Int}, xs.length = ys.length → ys.length = zs.length → lexI false ys xs = false → lexI false zs ys = false → lexI false zs xs = false
  | [], [], [], _, _, _, _ => rfl
  | x :: xs, y :: ys, z :: zs, h1, h2, a, b => by
    unfold lexI at a b ⊢
    by_cases e1 : y = x
    · rw [if_pos e1] at a
      by_cases e2 : z = y
      · rw [if_pos e2] at b
        rw [if_pos (e2.trans e1)]
        exact lexI_le (by simpa using h1) (by simpa using h2) a b
      · rw [if_neg e2] at b
        have := of_decide_eq_false b
        rw [if_neg (by omega)]
        exact decide_eq_false (by omega)
    · rw [if_neg e1] at a
      have a := of_decide_eq_false a
      by_cases e2 : z = y
      · rw [if_neg (by omega)]
        exact decide_eq_false (by omega)
      · rw [if_neg e2] at b
        have := of_decide_eq_false b
        rw [if_neg (by omega)]
        exact decide_eq_false (by omega)
theorem lexI_asym : ∀ {xs ys : List Int}, xs.length = ys.length → lexI false xs ys = true → lexI false ys xs = false
  | [], [], _, h => nomatch h
  | x :: xs, y :: ys, hl, h => by
    unfold lexI at h ⊢
    by_cases e : x = y
    · rw [if_pos e] at h
      rw [if_pos e.symm]
      exact lexI_asym (by simpa using hl) h
    · rw [if_neg e] at h
      have := of_decide_eq_true h
      rw [if_neg (by omega)]
      exact decide_eq_false (by omega)
theorem lexI_anti : ∀ {xs ys : List Int}, xs.length = ys.length → lexI false xs ys = false → lexI false ys xs = false → xs = ys
  | [], [], _, _, _ => rfl
  | x :: xs, y :: ys, hl, h, k => by
    unfold lexI at h k
    by_cases e : x = y
    · rw [if_pos e] at h
      rw [if_pos e.symm] at k
      rw [e, lexI_anti (by simpa using hl) h k]
    · rw [if_neg e] at h
      rw [if_neg (Ne.symm e)] at k
      have := of_decide_eq_false h
      have := of_decide_eq_false k
      omega
theorem ltI_same {xs ys : List Int} (h : xs.length = ys.length) : ltI xs ys = lexI false xs ys := by
  unfold ltI
  rw [decide_eq_false (by omega)]
def keyC (xss : List (List Int)) (i : Nat) : List Int := xss.getD i (xss.headD [])
def ordC (xss : List (List Int)) (i j : Nat) : Bool := ltI (keyC xss i) (keyC xss j)
theorem keyC_in {xss : List (List Int)} {i : Nat} (h : i < xss.length) : keyC xss i = xss.getD i [] := by
  unfold keyC
  rw [List.getD_eq_getElem?_getD, List.getD_eq_getElem?_getD, List.getElem?_eq_getElem h]
  rfl
theorem ordC_in {xss : List (List Int)} {i j : Nat} (hi : i < xss.length) (hj : j < xss.length) : ordC xss i j = ltI (xss.getD i []) (xss.getD j []) := by
  unfold ordC
  rw [keyC_in hi, keyC_in hj]
theorem keyC_len {xss : List (List Int)} {m : Nat} (h0 : 0 < xss.length) (h : ∀ xs ∈ xss, xs.length = m) (i : Nat) : (keyC xss i).length = m := by
  unfold keyC
  rw [List.getD_eq_getElem?_getD]
  cases e : xss[i]? with
  | some x => exact h x (List.mem_of_getElem? e)
  | none =>
    cases xss with
    | nil => cases h0
    | cons x xs => exact h x (by simp)
theorem ordr_of {xss : List (List Int)} {m : Nat} (h0 : 0 < xss.length) (h : ∀ xs ∈ xss, xs.length = m) : Ordr (ordC xss) := by
  have k := keyC_len h0 h
  refine ⟨fun a b e => ?_, fun a b d e1 e2 => ?_⟩
  · unfold ordC at e ⊢
    rw [ltI_same (by rw [k, k])] at e ⊢
    exact lexI_asym (by rw [k, k]) e
  · unfold ordC at e1 e2 ⊢
    rw [ltI_same (by rw [k, k])] at e1 e2 ⊢
    exact lexI_le (by rw [k, k]) (by rw [k, k]) e1 e2
/-- sorted, of a list of tuples of m ints: the sorted list -/
def rSortO : List V → Hp → VK → Prop := fun vs H Q => ∃ (v : V) (xss : List (List Int)) (m : Nat), vs = [v] ∧ Is H (.l (xss.map tI)) v ∧ 0 < m ∧ (∀ xs ∈ xss, xs.length = m) ∧ xss.length < 64 ∧
  ∀ (yss : List (List Int)) (q : Addr) (H' : Hp), yss.Perm xss → (∀ i j, i < j → j < yss.length → ltI (yss.getD j []) (yss.getD i []) = false) → H q = none → Same H H' → Is H' (.l (yss.map tI)) (.ref q) → Q (.ref q) H'
section
variable {prog : Program} {w : World} {A : Around} {E : Value → Shared → Prop} {s : Shared}
theorem sort_kasC {c : Nat → Nat → Bool} {kd : SortKind} {a : Addr} {vs : List Value} {n : Nat} {P : PySem.Fin → Shared → Prop} (ho : s.heap.get? a = some (seqObj "list" vs.toArray n)) (h2 : 2 ≤ vs.length) (h64 : vs.length < 64)
    (hkd : ∀ (R : SortKind → Shared → Prop), R kd { s with heap := sortIn s.heap a vs } → wpAny (model prog w) A (keyKind' vs.toArray) R E { s with heap := sortIn s.heap a vs })
    (hc : ∀ i j, i < vs.length → j < vs.length → ∀ C : Bool → Shared → Prop, C (c i j) { s with heap := sortIn s.heap a vs } → wpAny (model prog w) A (keyLt' kd (vs.getD i .none) (vs.getD j .none)) C (fun _ _ => False) { s with heap := sortIn s.heap a vs })
    (h : ∀ p, Ord vs.length p → p = krun c (kas_sort vs.length) → P (.done (.ret .none)) { s with heap := sortedHeap s.heap a vs (p.map fun i => vs.getD i .none) }) : wpAny (model prog w) A (Builtin.«list.sort» ⟨[.ref a], []⟩) P E s := by
  rw [list_sort_plain]
  have ha : a < s.heap.objs.size := Heap.lt_size ho
  refine wpAny_bind (listItems_at ho rfl ?_)
  refine wpAny_bind (listUpdate_at ho rfl ?_ (by rw [List.size_toArray, sizeLine_eq]; omega) (Nat.zero_le _))
  obtain ⟨e1, ho1⟩ : ∃ e1, (s.heap.update a (Obj.mapSeq fun _ => (#[] : Array Value))).get? a = some (seqObj "list" #[] e1) := ⟨_, get?_update_seq ho (fun _ => #[])⟩
  refine wpAny_bind (seqEpoch_at ho1 rfl ?_)
  refine wpAny_bind (wpAny_newTuple ?_ (by show vs.length ≤ _; rw [sizeLine_eq]; omega))
  refine wpAny_bind (wpAny_newList ?_ (Nat.zero_le _))
  refine wpAny_holding ?_
  have ho6 : (sortIn s.heap a vs).get? a = some (seqObj "list" #[] e1) := by
    rw [Heap.get?_push_ne _ _ _ (by rw [size_push', Heap.size_update]; exact Nat.ne_of_lt (Nat.lt_succ_of_lt ha)), Heap.get?_push_ne _ _ _ (by rw [Heap.size_update]; exact Nat.ne_of_lt ha)]
    exact ho1
  show wpAny (model prog w) A _ P E { s with heap := sortIn s.heap a vs }
  dsimp only
  have hn2 : ¬ vs.toArray.size < 2 := by rw [List.size_toArray]; omega
  rw [if_neg hn2, if_neg hn2]
  refine wpAny_bind (hkd _ ?_)
  have est : kas_st kd (pairsOf vs) (List.toArray (List.range vs.length)) = SortSt.mk' kd (vs.toArray.zip vs.toArray) #[] 7 none := by
    have e := kas_range (pairsOf vs)
    rw [pairsOf_size] at e
    show SortSt.mk' kd ((List.toArray (List.range vs.length)).map (kas_item (pairsOf vs))) #[] 7 none = SortSt.mk' kd (pairsOf vs) #[] 7 none
    rw [e]
  have ask : (kas_sort vs.length).kasWp (kas_cmp prog w A kd (pairsOf vs)) (fun p s' => s' = { s with heap := sortIn s.heap a vs } ∧ Ord vs.length p ∧ p = krun c (kas_sort vs.length)) { s with heap := sortIn s.heap a vs } := by
    refine Leaves.wpc (c := c) (fun i j hi hj C hC => ?_) (fun hp => ⟨rfl, hp, rfl⟩) (lv_sort (by omega))
    rw [← kas_ask_eq]
    exact hc i j hi hj C hC
  have run := kas_runs (E := E) (Q := fun _ st' s' => ∃ p, s' = { s with heap := sortIn s.heap a vs } ∧ (Ord vs.length p ∧ p = krun c (kas_sort vs.length)) ∧ arrOf st' = p.map (kas_item (pairsOf vs)) ∧ failedOf st' = none) h2 h64 (fun p' st' s' _ a2 a3 a4 => ⟨p', a4.1, a4.2, a2, a3⟩) ask
  rw [est] at run
  refine wpAny_bind (wpAny_mono run ?_ fun _ _ e => e)
  rintro ⟨⟨⟩, st'⟩ s' ⟨p, rfl, ⟨hp, hpc⟩, har, hf⟩
  dsimp only at har hf ⊢
  have eo : (arrOf st').map (·.2) = p.map fun i => vs.getD i .none := by
    rw [har, Array.map_map]
    refine Array.map_congr_left fun i _ => ?_
    show (kas_item (pairsOf vs) i).2 = _
    rw [kas_item_eq]
  rw [eo]
  refine wpAny_bind (seqEpoch_at ho6 rfl ?_)
  refine wpAny_bind (listUpdate_at ho6 rfl ?_ (Nat.zero_le _) (by rw [Array.size_map, sizeLine_eq, hp.size]; omega))
  rw [hf]
  simp only [bne_self_eq_false, Bool.false_eq_true, if_false]
  exact wpAny_pure (h p hp hpc)
theorem sorted_kasC {c : Nat → Nat → Bool} {kd : SortKind} {l : Addr} {vs : List Value} {Q : Value → Shared → Prop} (hl : s.heap.IsList l vs.toArray) (h2 : 2 ≤ vs.length) (h64 : vs.length < 64)
    (hkd : ∀ (R : SortKind → Shared → Prop) (E : Value → Shared → Prop), R kd { s with heap := sortedIn s.heap vs } → wpAny (model prog w) A.in1.in1 (keyKind' vs.toArray) R E { s with heap := sortedIn s.heap vs })
    (hc : ∀ i j, i < vs.length → j < vs.length → ∀ C : Bool → Shared → Prop, C (c i j) { s with heap := sortedIn s.heap vs } → wpAny (model prog w) A.in1.in1 (keyLt' kd (vs.getD i .none) (vs.getD j .none)) C (fun _ _ => False) { s with heap := sortedIn s.heap vs })
    (h : ∀ p, Ord vs.length p → p = krun c (kas_sort vs.length) → Q (.ref (s.heap.objs.size + 1)) { s with heap := sortedAll s.heap vs (p.map fun i => vs.getD i .none) }) : wpAny (model prog w) A (call (.builtin "sorted") [.ref l]) Q E s := by
  refine Calls.call_function_entry kind_sorted plain_sorted entry_sorted (args_sorted1 _) ?_
  unfold Builtin.«sorted»
  refine wpAny_bind (m := checkCount "sorted" 1 1 _) (wpAny_pure ?_)
  refine wpAny_bind (collect_list hl ?_ (by rw [sizeLine_eq]; omega))
  refine wpAny_bind (wpAny_newList ?_ (by rw [sizeLine_eq]; omega))
  have hsz : ((s.heap.push (seqObj "list" #[] 0)).update s.heap.objs.size (Obj.mapSeq (· ++ vs.toArray))).objs.size = s.heap.objs.size + 1 := by
    rw [Heap.size_update, size_push']
  have hoL : (((s.heap.push (seqObj "list" #[] 0)).update s.heap.objs.size (Obj.mapSeq (· ++ vs.toArray))).push (seqObj "list" vs.toArray 0)).get? (s.heap.objs.size + 1) = some (seqObj "list" vs.toArray 0) := by
    rw [← hsz]; exact Heap.get?_push_size _ rfl
  show wpAny _ _ _ _ _ { s with heap := ((s.heap.push (seqObj "list" #[] 0)).update s.heap.objs.size (Obj.mapSeq (· ++ vs.toArray))).push (seqObj "list" vs.toArray 0) }
  rw [hsz]
  refine wpAny_bind (wpAny_holding (wpAny_call_entry slot_list_sort ⟨_, hoL, rfl⟩ entry_list_sort (sort_kasC (c := c) (s := { s with heap := ((s.heap.push (seqObj "list" #[] 0)).update s.heap.objs.size (Obj.mapSeq (· ++ vs.toArray))).push (seqObj "list" vs.toArray 0) }) hoL h2 h64 (fun R => hkd R _) hc fun p hp hpc => ⟨_, rfl, ?_⟩) (args_list_sort _)))
  exact wpAny_pure ⟨_, rfl, h p hp hpc⟩
end
section
variable {X : Cx} {pins : List (Addr × Obj)} {σ : St} {H : Hp} {s : Shared}
theorem call_sortO : CallR X (.builtin "sorted") rSortO := by
  intro pins s σ H xs us Q I r h
  obtain ⟨v, xss, m, rfl, hv, hm, hne', hlen, q⟩ := h
  have hne : ∀ xs ∈ xss, xs ≠ [] := fun xs hx z => by have := hne' xs hx; rw [z] at this; exact absurd this (by show ¬ 0 = m; omega)
  obtain ⟨l, rs, rfl, hl, hi⟩ := of_l hv
  have hrs : rs.length = xss.length := by rw [hi.length, List.length_map]
  obtain ⟨u, rfl, rx⟩ := vals1 r
  cases rx
  obtain ⟨its, r', pl, hz⟩ := I.list (SqL.of (K := X.K) hl)
  have ln := r'.length
  by_cases h2 : rs.length < 2
  · refine sorted_few (vs := its) pl.isList (by omega) ?_
    obtain ⟨e, he⟩ := sortedAll_at s.heap its its.toArray
    have fr := I.hok.fresh (a := s.heap.objs.size + 1) (Nat.le_succ _)
    exact ⟨.ref (s.heap.objs.size + 1), _, I.laid (t' := s.toks) (fun _ _ => sortedAll_old) (Nat.le_succ _) (show ObjOk X.prog X.w _ _ _ (.lst rs) from ⟨hz, its, e, r', he⟩), rfl, q xss _ _ (List.Perm.refl _) (fun i j a b => absurd b (by omega)) fr (Same.new fr) (is_l upd_same (hi.mono (Same.new fr)))⟩
  · have I2 : Inv X pins σ H { s with heap := sortedIn s.heap its } := I.kept (t' := s.toks) fun b o e => sortedIn_old e
    have lns : its.length = xss.length := by omega
    refine sorted_kasC (c := ordC xss) (kd := tuples' true) (vs := its) pl.isList (by omega) (by omega) (fun R E hR => ?_) (fun i j hi' hj' C hC => ?_) fun p ho hpc => ?_
    · obtain ⟨fs, k1, k2, k3⟩ := kat_tups I2 hi r' hne
      exact kat_kind (T := .type "int") k1 (by omega) (fun f hf => by obtain ⟨z, t, rfl⟩ := k3 f hf; exact .now) rfl hR
    · have g : ∀ i, i < xss.length → ∃ a, its.getD i .none = .ref a ∧ SqT X.K H a ((xss.getD i []).map V.int) := fun i h => by
        have hr : i < rs.length := by omega
        obtain ⟨d, hd, h1⟩ := hi.of_get (List.getElem?_eq_getElem hr)
        rw [List.getElem?_map, List.getElem?_eq_getElem h] at hd
        cases hd
        obtain ⟨a, ea, ha⟩ := of_tI h1
        obtain ⟨u, hu1, ru⟩ := r'.get (List.getElem?_eq_getElem hr)
        rw [ea] at ru
        obtain rfl : u = Value.ref a := ru
        refine ⟨a, ?_, ?_⟩
        · rw [List.getD_eq_getElem?_getD, hu1]; rfl
        · rw [List.getD_eq_getElem?_getD, List.getElem?_eq_getElem h]
          exact SqT.of ha
      obtain ⟨a1, e1, s1⟩ := g i (by omega)
      obtain ⟨a2, e2, s2⟩ := g j (by omega)
      rw [e1, e2]
      rw [ordC_in (by omega) (by omega)] at hC
      exact key_ints I2 s1 s2 hC
    · rw [lns] at ho hpc
      have hpl : ∀ i ∈ p.toList, i < xss.length := fun i hi => ho.lt hi
      obtain ⟨e, he⟩ := sortedAll_at s.heap its (p.map fun i => its.getD i .none)
      have en : (p.map fun i => its.getD i .none) = List.toArray (p.toList.map fun i => its.getD i .none) := by
        apply Array.toList_inj.mp
        simp
      rw [en] at he ⊢
      have fr := I.hok.fresh (a := s.heap.objs.size + 1) (Nat.le_succ _)
      refine ⟨.ref (s.heap.objs.size + 1), _, I.laid (t' := s.toks) (fun _ _ => sortedAll_old) (Nat.le_succ _) (show ObjOk X.prog X.w _ _ _ (.lst (p.toList.map fun i => rs.getD i .non)) from ⟨?_, _, e, vals_getD r' p.toList (fun i hi => by rw [hrs]; exact hpl i hi), he⟩), rfl, q (p.toList.map fun i => xss.getD i []) _ _ ?_ ?_ fr (Same.new fr) (is_l upd_same ((iss_getD hi p.toList hpl).mono (Same.new fr)))⟩
      · rw [List.length_map, Array.length_toList, sizeLine_eq, ho.size]
        omega
      · have pp := (Array.perm_iff_toList_perm.mp ho).map fun i => xss.getD i []
        rw [show (List.range xss.length).toArray.toList = List.range xss.length from rfl, map_getD] at pp
        exact pp
      · intro i j hij hj
        rw [List.length_map, Array.length_toList, ho.size] at hj
        have up := krun_sort (ordr_of (xss := xss) (m := m) (by omega) hne') (n := xss.length) (by omega) i j hij hj
        rw [← hpc] at up
        have g : ∀ i, i < xss.length → (p.toList.map fun i => xss.getD i []).getD i [] = xss.getD (at0 p i) [] ∧ at0 p i < xss.length := fun i h => by
          have hs : i < p.size := by rw [ho.size]; exact h
          have e : at0 p i = p[i] := by simp [at0, Array.getD, hs]
          rw [e]
          refine ⟨?_, ho.lt (by simp)⟩
          rw [List.getD_eq_getElem?_getD, List.getElem?_map]
          simp [hs]
        obtain ⟨g1, g2⟩ := g i (by omega)
        obtain ⟨g3, g4⟩ := g j hj
        rw [g1, g3]
        rw [ordC_in g4 g2] at up
        exact up
end
end L2
/-! ### a comprehension over a tuple; isinstance in one -/
namespace L2
open PySem PySem.Spec PyProof.Rows
section
variable {X : Cx} {K : PySem.W.Frag}
end
end L2
/-! ### t[lo:hi] of a tuple, the whole of it too -/
namespace HT
open PySem PySem.Spec PyProof.Rows
section
variable {prog : Program} {w : World} {A : Around} {E : Value → Shared → Prop} {s : Shared}
theorem getItem_tuple_all {t sl : Addr} {items : Array Value} {vl vu : Value} {lo hi : Option Int} {Q : Value → Shared → Prop} (ht : IsTup s.heap t items) (hs : s.heap.IsSliceOf sl vl vu .none) (pl : IsPart vl lo) (pu : IsPart vu hi)
    (hw : sIx items.size 0 lo = 0 ∧ sIx items.size items.size hi = items.size) (h : Q (.ref t) s) : wpAny (model prog w) A (getItem (.ref t) (.ref sl)) Q E s := by
  obtain ⟨os, hos, hcs, hds⟩ := id hs
  have hTs : s.TypeIs (.ref sl) "slice" := ⟨os, hos, hcs⟩
  unfold getItem
  try with_reducible refine wpAny_holding ?_
  first | refine wpAny_bind (wpAny_pure ?_) | skip
  refine wpAny_bind (wpAny_sequenceKey ht.typeIs (by decide) ?_)
  refine wpAny_bind (wpAny_callSpecial?_slot (name := Str.ofString "__getitem__") ht.typeIs PyProof.Rows.slot_tuple_getitem
    (wpAny_call_entry PyProof.Rows.slot_tuple_getitem ht.typeIs entry_tuple_getitem ?_ (args_tuple_getitem _ _)))
  show wpAny _ _ (Builtin.Tuple.tupleItemsOf (.ref t) >>= _) _ _ s
  refine wpAny_bind (tupleItemsOf_ ht ?_)
  refine wpAny_bind (wpAny_typeOf hTs ?_)
  rw [if_pos (by decide)]
  refine wpAny_bind (sliceApplied_gen hs pl pu ?_)
  have hyes : (((sIx items.size 0 lo : Nat) : Int) == 0 && (1 : Int) == 1 && (sIx items.size items.size hi - sIx items.size 0 lo) == items.size) = true := by
    rw [hw.1, hw.2]
    simp
  show wpAny _ _ (if (((sIx items.size 0 lo : Nat) : Int) == 0 && (1 : Int) == 1 && (sIx items.size items.size hi - sIx items.size 0 lo) == items.size) = true then _ else _) _ _ s
  rw [if_pos hyes]
  unfold Builtin.Tuple.tupleIsExact
  refine wpAny_bind (wpAny_bind (wpAny_typeOf ht.typeIs (wpAny_pure ?_)))
  rw [if_pos (by decide)]
  refine wpAny_bind (wpAny_rule ?_)
  exact wpAny_pure ⟨_, rfl, wpAny_pure h⟩
end
end HT
namespace L2
open PySem PySem.Spec PyProof.Rows
section
variable {X : Cx}
/-- t[lo:hi], the whole of it being t itself -/
def rSlA (K : PySem.W.Frag) : V → Option Int → Option Int → Hp → VK → Prop := fun x lo hi H Q => ∃ a xs, x = .ref a ∧ SqT K H a xs ∧
  ((HT.sIx xs.length 0 lo = 0 ∧ HT.sIx xs.length xs.length hi = xs.length) → Q (.ref a) H) ∧ (¬ (HT.sIx xs.length 0 lo = 0 ∧ HT.sIx xs.length xs.length hi = xs.length) → ∀ p, H p = none → Q (.ref p) (upd H p (.tup (cutV xs lo hi))))
theorem sl_tupA : SlR X (rSlA X.K) := by
  intro pins s σ H x v vl vu lo hi sl Q I rx hs pl pu h
  obtain ⟨a, xs, rfl, hx, q1, q2⟩ := h
  by_cases hw : HT.sIx xs.length 0 lo = 0 ∧ HT.sIx xs.length xs.length hi = xs.length
  · cases rx
    obtain ⟨its, r, ht, hz⟩ := I.tuple hx
    have hlen : its.toArray.size = xs.length := by rw [List.size_toArray]; exact r.length.symm
    refine ⟨"tuple", _, PyProof.Rows.slot_tuple_getitem.lookup, ht.typeIs, ?_⟩
    exact HT.getItem_tuple_all ht hs pl pu (by rw [hlen]; exact hw) ⟨.ref a, H, I, rfl, q1 hw⟩
  · exact sl_tup pins s σ H _ v vl vu lo hi sl Q I rx hs pl pu ⟨a, xs, rfl, hx, hw, q2 hw⟩
end
end L2
/-! ### sorted(xs, key=f), f an own def that tells truths, of what is sorted so; xs.count(x) -/
namespace L2
open PySem PySem.Spec PyProof.Rows PySem.W
section
variable {c : Nat → Nat → Bool}
end
section
variable {X : Cx} {pins : List (Addr × Obj)} {σ : St} {H : Hp} {s : Shared}
/-- == tells e of two things -/
def EqT (K : PySem.W.Frag) (H : Hp) (n : Nat) (x y : V) (e : Bool) : Prop := ∀ (X : Cx) (pins : List (Addr × Obj)) (σ : St) (s : Shared), X.K = K → Inv X pins σ H s → ∀ (A : Around) (u v : Value), A.units + n < cLine → RelV x u → RelV y v → SeqAt.EqAt A s u v e
theorem EqR.told {K : PySem.W.Frag} {n : Nat} {x y : V} {e : Bool} (h : EqR K H n x y e) : EqT K H n x y e := fun X pins σ s hk I A u v hu ru rv => by
  subst hk
  exact (h.at_ I (A := A) hu ru rv).2.2
def Told2 (K : PySem.W.Frag) (H : Hp) (n : Nat) (xs : List V) (x : V) (es : Nat → Bool) : Prop := n ≤ 8 ∧ (∀ (j : Nat) z, xs[j]? = some z → (∃ a, z = .ref a) ∧ EqT K H n z x (es j)) ∧ ∀ (i j : Nat) z, xs[i]? = some z → xs[j]? = some z → es i = es j
open Classical in
theorem eTold2_at {n : Nat} {xs : List V} {x : V} {es : Nat → Bool} {its : List Value} (t : Told2 X.K H n xs x es) (r : Vals xs its) {j : Nat} {u : Value} (hu : its[j]? = some u) : eTold its es u = es j := by
  have same : ∀ i : Nat, its[i]? = some u → es i = es j := fun i hi => by
    have li := (List.getElem?_eq_some_iff.mp hi).1
    have lj := (List.getElem?_eq_some_iff.mp hu).1
    have ln := r.length
    have xi : xs[i]? = some xs[i] := List.getElem?_eq_getElem (by omega)
    have xj : xs[j]? = some xs[j] := List.getElem?_eq_getElem (by omega)
    obtain ⟨u1, e1, r1⟩ := r.get xi
    obtain ⟨u2, e2, r2⟩ := r.get xj
    rw [hi] at e1
    rw [hu] at e2
    cases e1
    cases e2
    obtain ⟨⟨a, ea⟩, _⟩ := t.2.1 i _ xi
    obtain ⟨⟨b, eb⟩, _⟩ := t.2.1 j _ xj
    rw [ea] at r1 xi
    rw [eb] at r2 xj
    obtain rfl : u = Value.ref a := r1
    have : Value.ref a = Value.ref b := r2
    cases this
    exact t.2.2 i j _ xi xj
  unfold eTold
  cases h : es j with
  | true => exact decide_eq_true ⟨j, hu, h⟩
  | false => exact decide_eq_false fun ⟨i, hi, e⟩ => by rw [same i hi, h] at e; cases e
/-- xs.count(x), by what == tells of each item -/
def rCountD (K : PySem.W.Frag) : V → List V → Hp → VK → Prop := fun o vs H Q => ∃ (p : Addr) (xs : List V) (x : V) (n : Nat) (es : Nat → Bool), o = .ref p ∧ vs = [x] ∧ SqL K H p xs ∧ Told2 K H n xs x es ∧ Q (.int (((List.range xs.length).countP es : Nat) : Int)) H
theorem mt_countD {k : Nat} (hr : Room k X.A) : MtM X "list.count" (rCountD X.K) := by
  intro pins s σ H o vs v us Q I ro rv h
  obtain ⟨p, xs, x, n, es, rfl, rfl, hq, t, q⟩ := h
  cases ro
  obtain ⟨u, rfl, ru⟩ := Vals.one rv
  have hu := hr.un
  have t8 := t.1
  obtain ⟨its, r, pl, hz⟩ := I.list hq
  have ln := r.length
  obtain ⟨⟨cls, dd, data, sl⟩, ho, hc, m, hd⟩ := pl.isList
  simp only at hc hd
  subst hc hd
  have ec : its.toArray.toList.countP (eTold its es) = (List.range xs.length).countP es := by
    have e1 : its = (List.range its.length).map fun i => its.getD i .none := by
      refine List.ext_getElem (by simp) fun i h1 h2 => ?_
      simp [h1]
    have e2 : its.countP (eTold its es) = ((List.range its.length).map fun i => its.getD i .none).countP (eTold its es) := by rw [← e1]
    show its.countP (eTold its es) = _
    rw [e2, List.countP_map, ln]
    refine List.countP_congr fun i hi => ?_
    have hi' : i < its.length := by simpa using hi
    have : eTold its es (its.getD i .none) = es i := eTold2_at t r (by rw [List.getD_eq_getElem?_getD, List.getElem?_eq_getElem hi']; rfl)
    simp only [Function.comp_apply, this]
  refine call_meets F.slot_list_count ⟨_, ho, rfl⟩ F.entry_list_count (F.args_list_count_2 _ _) (SeqAt.list_countAt p its.toArray m dd sl u (eTold its es)) ⟨ho, fun y hy => ?_, ?_⟩
  · obtain ⟨j, hj, e⟩ := List.mem_iff_getElem.mp (by simpa using hy)
    have ej : its[j]? = some y := by rw [List.getElem?_eq_getElem hj, e]
    have xj : xs[j]? = some xs[j] := List.getElem?_eq_getElem (by omega)
    obtain ⟨u2, e2, r2⟩ := r.get xj
    rw [ej] at e2
    cases e2
    rw [eTold2_at t r ej]
    exact (t.2.1 j _ xj).2 X pins σ s rfl I _ _ _ (by rw [units_in1]; omega) r2 ru
  rw [ec]
  exact ⟨.int _, H, I.tok _, ⟨_, rfl⟩, q⟩
end
end L2
/-! ### the table of a set: what a search meets (no object, no run) -/
namespace L2
open PySem PySem.SetTable
/-- the slots that a search with the hash h passes -/
def pNext (m : Nat) (p : Probe) : Probe := advance { mask := m, place := #[], dummies := #[], finger := 0, led := true, moves := 0, plain := true } p
def pAt (m : Nat) (h : Int) : Nat → Probe
  | 0 => probeStart { mask := m, place := #[], dummies := #[], finger := 0, led := true, moves := 0, plain := true } h
  | n + 1 => pNext m (pAt m h n)
def sl (m : Nat) (h : Int) (n : Nat) : Nat := (pAt m h n).j
theorem adv_eq (t : SetTable) (p : Probe) : advance t p = pNext t.mask p := rfl
theorem pNext_dummy {m : Nat} {p : Probe} (h : p.dummy = none) : (pNext m p).dummy = none := by
  unfold pNext advance
  split <;> exact h
theorem pAt_dummy (m : Nat) (h : Int) : ∀ n, (pAt m h n).dummy = none
  | 0 => rfl
  | n + 1 => pNext_dummy (pAt_dummy m h n)
/-! the places of a rising array -/
def Ris (xs : Array Nat) : Prop := ∀ i j, i < j → j < xs.size → xs.getD i 0 < xs.getD j 0
theorem getD_any {xs : Array Nat} {i : Nat} (h : i < xs.size) (a b : Nat) : xs.getD i a = xs.getD i b := by simp [Array.getD, h]
theorem below_go {xs : Array Nat} {j : Nat} (r : Ris xs) : ∀ (f lo hi : Nat), hi - lo ≤ f → lo ≤ hi → hi ≤ xs.size → (∀ i, i < lo → xs.getD i 0 < j) → (∀ i, hi ≤ i → i < xs.size → j ≤ xs.getD i 0) →
    lo ≤ below.go xs j f lo hi ∧ below.go xs j f lo hi ≤ hi ∧ (∀ i, i < below.go xs j f lo hi → xs.getD i 0 < j) ∧ (∀ i, below.go xs j f lo hi ≤ i → i < xs.size → j ≤ xs.getD i 0)
  | 0, lo, hi, hf, hl, hh, h1, h2 => by
    unfold below.go
    have : lo = hi := by omega
    subst this
    exact ⟨Nat.le_refl _, Nat.le_refl _, h1, h2⟩
  | f + 1, lo, hi, hf, hl, hh, h1, h2 => by
    unfold below.go
    by_cases c : lo < hi
    · rw [if_pos c]
      dsimp only
      have hm : (lo + hi) / 2 < xs.size := by omega
      by_cases c2 : xs.getD ((lo + hi) / 2) j < j
      · rw [if_pos c2]
        rw [getD_any hm j 0] at c2
        obtain ⟨a, b, c, d⟩ := below_go r f ((lo + hi) / 2 + 1) hi (by omega) (by omega) hh (fun i hi' => by
          by_cases e : i = (lo + hi) / 2
          · rw [e]; exact c2
          · exact Nat.lt_trans (r i _ (by omega) hm) c2) h2
        exact ⟨by omega, b, c, d⟩
      · rw [if_neg c2]
        rw [getD_any hm j 0] at c2
        obtain ⟨a, b, c, d⟩ := below_go r f lo ((lo + hi) / 2) (by omega) (by omega) (by omega) h1 (fun i h3 h4 => by
          by_cases e : i = (lo + hi) / 2
          · rw [e]; omega
          · have := r ((lo + hi) / 2) i (by omega) h4
            omega)
        exact ⟨a, by omega, c, d⟩
    · rw [if_neg c]
      have : lo = hi := by omega
      subst this
      exact ⟨Nat.le_refl _, Nat.le_refl _, h1, h2⟩
theorem below_at {xs : Array Nat} (r : Ris xs) (j : Nat) : below xs j ≤ xs.size ∧ (∀ i, i < below xs j → xs.getD i 0 < j) ∧ (∀ i, below xs j ≤ i → i < xs.size → j ≤ xs.getD i 0) := by
  obtain ⟨_, b, c, d⟩ := below_go (j := j) r xs.size 0 xs.size (by omega) (Nat.zero_le _) (Nat.le_refl _) (fun i h => absurd h (by omega)) (fun i h1 h2 => by omega)
  exact ⟨b, c, d⟩
def In (xs : Array Nat) (j : Nat) : Prop := ∃ i, i < xs.size ∧ xs.getD i 0 = j
theorem below_in {xs : Array Nat} (r : Ris xs) {i : Nat} (hi : i < xs.size) : below xs (xs.getD i 0) = i := by
  obtain ⟨a, b, c⟩ := below_at r (xs.getD i 0)
  by_cases h : below xs (xs.getD i 0) < i
  · have := c _ (Nat.le_refl _) (by omega)
    have := r _ _ h hi
    omega
  · by_cases h2 : i < below xs (xs.getD i 0)
    · have := b i h2
      omega
    · omega
theorem slot_live {t : SetTable} (r : Ris t.place) {i : Nat} (hi : i < t.place.size) : t.slot (t.place.getD i 0) = .live i := by
  unfold slot
  dsimp only
  rw [below_in r hi, if_pos]
  simp [Array.getD, hi]
theorem has_nil (j : Nat) : has #[] j = false := by unfold has; simp
theorem slot_empty {t : SetTable} (r : Ris t.place) (hd : t.dummies = #[]) {j : Nat} (h : ¬ In t.place j) : t.slot j = .empty := by
  unfold slot
  dsimp only
  have e : (t.place[below t.place j]? == some j) = false := by
    cases q : t.place[below t.place j]? with
    | none => rfl
    | some x =>
      obtain ⟨hl, e⟩ := Array.getElem?_eq_some_iff.mp q
      have : x ≠ j := fun z => h ⟨_, hl, by simp [Array.getD, hl, e, z]⟩
      simpa using this
  rw [e, hd, has_nil]
  rfl
theorem in_dec (xs : Array Nat) (j : Nat) : In xs j ∨ ¬ In xs j := Classical.em _
/-! the search over the slots -/
theorem probe_go {t : SetTable} (r : Ris t.place) (hd : t.dummies = #[]) (hashAt : Nat → Int) (h : Int) : ∀ (f n0 : Nat), (∃ n1, n0 ≤ n1 ∧ n1 < n0 + f ∧ ¬ In t.place (sl t.mask h n1)) →
    ∃ n, n0 ≤ n ∧ (∀ k, n0 ≤ k → k < n → ∃ i, i < t.place.size ∧ t.place.getD i 0 = sl t.mask h k ∧ (hashAt i == h) = false) ∧
      ((¬ In t.place (sl t.mask h n) ∧ probe.go t hashAt h f (pAt t.mask h n0) = some (.empty (sl t.mask h n) none)) ∨
       ∃ i, i < t.place.size ∧ t.place.getD i 0 = sl t.mask h n ∧ (hashAt i == h) = true ∧ probe.go t hashAt h f (pAt t.mask h n0) = some (.candidate (sl t.mask h n) i (pAt t.mask h (n + 1))))
  | 0, n0, ⟨n1, h1, h2, _⟩ => absurd h2 (by omega)
  | f + 1, n0, ⟨n1, h1, h2, h3⟩ => by
    unfold probe.go
    rcases in_dec t.place (sl t.mask h n0) with c | c
    · obtain ⟨i, hi, e⟩ := c
      have sl' : t.slot (pAt t.mask h n0).j = .live i := by
        show t.slot (sl t.mask h n0) = _
        rw [← e]; exact slot_live r hi
      rw [sl']
      dsimp only
      cases q : (hashAt i == h) with
      | true =>
        refine ⟨n0, Nat.le_refl _, fun k h1 h2 => absurd h2 (by omega), .inr ⟨i, hi, e, q, ?_⟩⟩
        rw [if_pos rfl]
        rfl
      | false =>
        have ne : n0 ≠ n1 := by rintro rfl; exact h3 ⟨i, hi, e⟩
        obtain ⟨n, a, b, c⟩ := probe_go r hd hashAt h f (n0 + 1) ⟨n1, by omega, by omega, h3⟩
        refine ⟨n, by omega, fun k k1 k2 => ?_, ?_⟩
        · by_cases ek : k = n0
          · subst ek; exact ⟨i, hi, e, q⟩
          · exact b k (by omega) k2
        · rw [if_neg (by simp), adv_eq]
          exact c
    · have sl' : t.slot (pAt t.mask h n0).j = .empty := slot_empty r hd c
      rw [sl']
      refine ⟨n0, Nat.le_refl _, fun k h1 h2 => absurd h2 (by omega), .inl ⟨c, ?_⟩⟩
      dsimp only
      rw [pAt_dummy]
      rfl
/-! every slot is met -/
def jump (m : Nat) (q : Nat × Nat) : Nat × Nat := leap m q.1 q.2
def runAt (m : Nat) (q : Nat × Nat) : Probe := { j := q.1, more := runEnd m q.1 - q.1, i := q.1, perturb := q.2, dummy := none }
def jumps (m : Nat) (q : Nat × Nat) : Nat → Nat × Nat
  | 0 => q
  | n + 1 => jump m (jumps m q n)
theorem run_le (m i : Nat) : runEnd m i - i ≤ 9 := by unfold runEnd; split <;> omega
def nexts (m : Nat) (p : Probe) : Nat → Probe
  | 0 => p
  | n + 1 => pNext m (nexts m p n)
theorem nexts_add (m : Nat) (p : Probe) (a : Nat) : ∀ b, nexts m p (a + b) = nexts m (nexts m p a) b
  | 0 => rfl
  | b + 1 => by show pNext m (nexts m p (a + b)) = _; rw [nexts_add m p a b]; rfl
theorem pAt_nexts (m : Nat) (h : Int) (a : Nat) : ∀ b, pAt m h (a + b) = nexts m (pAt m h a) b
  | 0 => rfl
  | b + 1 => by show pNext m (pAt m h (a + b)) = _; rw [pAt_nexts m h a b]; rfl
theorem run_out (m : Nat) : ∀ (k : Nat) (p : Probe), p.more = k → p.dummy = none → nexts m p (k + 1) = runAt m (jump m (p.i, p.perturb))
  | 0, p, hm, hd => by
    show pNext m p = _
    unfold pNext advance
    rw [if_neg (by omega)]
    obtain ⟨j, mo, i, pe, du⟩ := p
    dsimp only at hm hd
    subst hm hd
    rfl
  | k + 1, p, hm, hd => by
    have e : nexts m p (k + 1 + 1) = nexts m (pNext m p) (k + 1) := by rw [show k + 1 + 1 = 1 + (k + 1) by omega, nexts_add]; rfl
    have en : pNext m p = { p with j := p.j + 1, more := p.more - 1 } := by
      unfold pNext advance
      rw [if_pos (by omega)]
    rw [e, run_out m k (pNext m p) (by rw [en]; show p.more - 1 = k; omega) (pNext_dummy hd), en]
theorem far (m : Nat) : ∀ (L : Nat) (p : Probe), p.more ≤ 9 → p.dummy = none → ∃ n, n ≤ 10 * (L + 1) ∧ nexts m p n = runAt m (jumps m (p.i, p.perturb) (L + 1))
  | 0, p, h9, hd => ⟨p.more + 1, by omega, run_out m p.more p rfl hd⟩
  | L + 1, p, h9, hd => by
    obtain ⟨n, hn, e⟩ := far m L p h9 hd
    have := run_le m (jumps m (p.i, p.perturb) (L + 1)).1
    refine ⟨n + (runEnd m (jumps m (p.i, p.perturb) (L + 1)).1 - (jumps m (p.i, p.perturb) (L + 1)).1 + 1), by omega, ?_⟩
    rw [nexts_add, e]
    exact run_out m _ (runAt m (jumps m (p.i, p.perturb) (L + 1))) rfl rfl
def Tm (m i : Nat) : Nat := (i * 5 + 1) % (m + 1)
def Tn (m i : Nat) : Nat → Nat
  | 0 => i
  | n + 1 => Tm m (Tn m i n)
theorem Tn_add (m i a : Nat) : ∀ b, Tn m i (a + b) = Tn m (Tn m i a) b
  | 0 => rfl
  | b + 1 => by show Tm m (Tn m i (a + b)) = _; rw [Tn_add m i a b]; rfl
theorem jumps_add (m : Nat) (q : Nat × Nat) (a : Nat) : ∀ b, jumps m q (a + b) = jumps m (jumps m q a) b
  | 0 => rfl
  | b + 1 => by show jump m (jumps m q (a + b)) = _; rw [jumps_add m q a b]; rfl
theorem jumps_pert (m : Nat) (q : Nat × Nat) : ∀ n, (jumps m q n).2 = q.2 / 32 ^ n
  | 0 => by simp [jumps]
  | n + 1 => by
    show (jumps m q n).2 / 32 = _
    rw [jumps_pert m q n, Nat.div_div_eq_div_mul, Nat.pow_succ]
theorem jumps_zero (m : Nat) (i : Nat) : ∀ n, jumps m (i, 0) n = (Tn m i n, 0)
  | 0 => rfl
  | n + 1 => by
    show jump m (jumps m (i, 0) n) = _
    rw [jumps_zero m i n]
    unfold jump leap
    simp [Tn, Tm]
def Msk (m : Nat) : Prop := m = 7 ∨ m = 31 ∨ m = 127
def orb (m : Nat) : Nat → Nat → List Nat
  | 0, _ => []
  | n + 1, i => i :: orb m n (Tm m i)
theorem orb_at (m : Nat) : ∀ (n i e : Nat), e ∈ orb m n i → ∃ k, k < n ∧ Tn m i k = e
  | 0, _, _, h => by simp [orb] at h
  | n + 1, i, e, h => by
    rcases List.mem_cons.mp h with h | h
    · exact ⟨0, by omega, h.symm⟩
    · obtain ⟨k, hk, e⟩ := orb_at m n (Tm m i) e h
      exact ⟨k + 1, by omega, by rw [show k + 1 = 1 + k by omega, Tn_add]; exact e⟩
theorem orb7 : (List.range 8).all (fun e => (orb 7 8 0).contains e) = true := by decide +kernel
theorem orb31 : (List.range 32).all (fun e => (orb 31 32 0).contains e) = true := by decide +kernel
theorem orb127 : (List.range 128).all (fun e => (orb 127 128 0).contains e) = true := by decide +kernel
theorem per7 : Tn 7 0 8 = 0 := by decide +kernel
theorem per31 : Tn 31 0 32 = 0 := by decide +kernel
theorem per127 : Tn 127 0 128 = 0 := by decide +kernel
theorem orbit {m : Nat} (hm : Msk m) : (∀ e, e ≤ m → ∃ k, k ≤ m ∧ Tn m 0 k = e) ∧ Tn m 0 (m + 1) = 0 := by
  have go : ∀ n, (List.range (n + 1)).all (fun e => (orb n (n + 1) 0).contains e) = true → ∀ e, e ≤ n → ∃ k, k ≤ n ∧ Tn n 0 k = e := fun n h e he => by
    have := List.all_eq_true.mp h e (by simp; omega)
    obtain ⟨k, hk, e⟩ := orb_at n (n + 1) 0 e (by simpa using this)
    exact ⟨k, by omega, e⟩
  rcases hm with rfl | rfl | rfl
  · exact ⟨go 7 orb7, per7⟩
  · exact ⟨go 31 orb31, per31⟩
  · exact ⟨go 127 orb127, per127⟩
theorem covers {m : Nat} (hm : Msk m) {i e : Nat} (hi : i ≤ m) (he : e ≤ m) : ∃ k, k ≤ m ∧ Tn m i k = e := by
  obtain ⟨o, p⟩ := orbit hm
  obtain ⟨a, ha, rfl⟩ := o i hi
  obtain ⟨b, hb, rfl⟩ := o e he
  by_cases c : a ≤ b
  · exact ⟨b - a, by omega, by rw [← Tn_add]; congr 1; omega⟩
  · refine ⟨m + 1 - a + b, by omega, ?_⟩
    rw [← Tn_add, show a + (m + 1 - a + b) = m + 1 + b by omega, Tn_add, p]
theorem bits_lt (h : Int) : bits h < 2 ^ 64 := by unfold bits; omega
/-- from each state on every slot is met in time -/
theorem meets {m : Nat} (hm : Msk m) {p : Probe} (h9 : p.more ≤ 9) (hd : p.dummy = none) (hp : p.perturb < 2 ^ 64) {e : Nat} (he : e ≤ m) : ∃ n, n < 10 * turns m ∧ (nexts m p n).j = e := by
  have z : ∀ L, 13 ≤ L → (jumps m (p.i, p.perturb) L).2 = 0 := fun L hL => by
    rw [jumps_pert]
    apply Nat.div_eq_of_lt
    have h1 : (32 : Nat) ^ 13 ≤ 32 ^ L := Nat.pow_le_pow_right (by decide) hL
    have h2 : (2 : Nat) ^ 64 < 32 ^ 13 := by decide
    show p.perturb < _
    omega
  have j13 : (jumps m (p.i, p.perturb) 13).1 ≤ m := by
    show (leap m _ _).1 ≤ m
    unfold leap
    have := Nat.mod_lt ((jumps m (p.i, p.perturb) 12).1 * 5 + 1 + (jumps m (p.i, p.perturb) 12).2 / 32) (show 0 < m + 1 by omega)
    dsimp only
    omega
  obtain ⟨k, hk, ek⟩ := covers hm j13 he
  obtain ⟨n, hn, en⟩ := far m (12 + k) p h9 hd
  refine ⟨n, by unfold turns; omega, ?_⟩
  rw [en, show 12 + k + 1 = 13 + k by omega, jumps_add]
  have e13 : jumps m (p.i, p.perturb) 13 = ((jumps m (p.i, p.perturb) 13).1, 0) := Prod.ext rfl (z 13 (Nat.le_refl _))
  rw [e13, jumps_zero]
  exact ek
theorem pAt_ok (m : Nat) (h : Int) : ∀ n, (pAt m h n).more ≤ 9 ∧ (pAt m h n).perturb < 2 ^ 64
  | 0 => ⟨run_le m _, bits_lt h⟩
  | n + 1 => by
    obtain ⟨a, b⟩ := pAt_ok m h n
    show (pNext m (pAt m h n)).more ≤ 9 ∧ (pNext m (pAt m h n)).perturb < 2 ^ 64
    unfold pNext advance
    split
    · exact ⟨by show (pAt m h n).more - 1 ≤ 9; omega, b⟩
    · unfold leap
      dsimp only
      exact ⟨run_le _ _, by omega⟩
theorem meet {m : Nat} (hm : Msk m) (h : Int) (n0 : Nat) {e : Nat} (he : e ≤ m) : ∃ n1, n0 ≤ n1 ∧ n1 < n0 + 10 * turns m ∧ sl m h n1 = e := by
  obtain ⟨n, hn, e⟩ := meets hm (pAt_ok m h n0).1 (pAt_dummy m h n0) (pAt_ok m h n0).2 he
  exact ⟨n0 + n, by omega, by omega, by unfold sl; rw [pAt_nexts]; exact e⟩
/-! room, a new entry, a table laid anew -/
theorem pigeon : ∀ (k N : Nat) (f : Nat → Nat), (∀ j, j < N → ∃ i, i < k ∧ f i = j) → N ≤ k
  | 0, N, f, h => by
    rcases Nat.eq_zero_or_pos N with e | e
    · omega
    · obtain ⟨i, hi, _⟩ := h 0 e
      omega
  | k + 1, N, f, h => by
    by_cases c : f k < N
    · have := pigeon k (N - 1) (fun i => if f k < f i then f i - 1 else f i) fun j hj => by
        by_cases e : j < f k
        · obtain ⟨i, hi, ei⟩ := h j (by omega)
          refine ⟨i, ?_, ?_⟩
          · by_cases z : i = k
            · subst z; omega
            · omega
          · rw [if_neg (by omega)]
            exact ei
        · obtain ⟨i, hi, ei⟩ := h (j + 1) (by omega)
          refine ⟨i, ?_, ?_⟩
          · by_cases z : i = k
            · subst z; omega
            · omega
          · rw [if_pos (by omega)]
            omega
      omega
    · have := pigeon k N f fun j hj => by
        obtain ⟨i, hi, ei⟩ := h j hj
        refine ⟨i, ?_, ei⟩
        by_cases z : i = k
        · subst z; omega
        · omega
      omega
def hAt (es : Array (Int × Value)) (i : Nat) : Int := (es[i]?.map (·.1)).getD 0
structure Tb (t : SetTable) (es : Array (Int × Value)) : Prop where
  mask : Msk t.mask
  dum : t.dummies = #[]
  size : t.place.size = es.size
  ris : Ris t.place
  bnd : ∀ i, i < t.place.size → t.place.getD i 0 ≤ t.mask
  reach : ∀ i, i < es.size → ∃ n, sl t.mask (hAt es i) n = t.place.getD i 0 ∧ ∀ k, k < n → In t.place (sl t.mask (hAt es i) k)
theorem Tb.free {t : SetTable} {es : Array (Int × Value)} (b : Tb t es) (h : es.size ≤ t.mask) : ∃ e, e ≤ t.mask ∧ ¬ In t.place e := by
  refine Classical.byContradiction fun z => ?_
  have := pigeon t.place.size (t.mask + 1) (fun i => t.place.getD i 0) fun j hj => by
    rcases in_dec t.place j with c | c
    · exact c
    · exact absurd ⟨j, by omega, c⟩ z
  have := b.size
  omega
/-- a search from the n0-th slot on -/
theorem Tb.probe {t : SetTable} {es : Array (Int × Value)} (b : Tb t es) (hs : es.size ≤ t.mask) (hashAt : Nat → Int) (h : Int) (n0 : Nat) :
    ∃ n, n0 ≤ n ∧ (∀ k, n0 ≤ k → k < n → ∃ i, i < t.place.size ∧ t.place.getD i 0 = sl t.mask h k ∧ (hashAt i == h) = false) ∧
      ((¬ In t.place (sl t.mask h n) ∧ t.probe hashAt h (pAt t.mask h n0) = some (.empty (sl t.mask h n) none)) ∨
       ∃ i, i < t.place.size ∧ t.place.getD i 0 = sl t.mask h n ∧ (hashAt i == h) = true ∧ t.probe hashAt h (pAt t.mask h n0) = some (.candidate (sl t.mask h n) i (pAt t.mask h (n + 1)))) := by
  obtain ⟨e, he, hn⟩ := b.free hs
  obtain ⟨n1, h1, h2, h3⟩ := meet b.mask h n0 he
  exact probe_go b.ris b.dum hashAt h _ n0 ⟨n1, h1, h2, by rw [h3]; exact hn⟩
theorem ins_at {α : Type} {xs : Array α} {p : Nat} (hp : p ≤ xs.size) (x : α) (i : Nat) : (insertAt xs p x)[i]? = if i < p then xs[i]? else if i = p then some x else xs[i - 1]? := by
  unfold insertAt
  have s1 : (xs.extract 0 p).size = p := by simp; omega
  have s2 : ((xs.extract 0 p).push x).size = p + 1 := by simp; omega
  by_cases h1 : i < p
  · rw [if_pos h1, Array.getElem?_append_left (by rw [s2]; omega), Array.getElem?_push, if_neg (by rw [s1]; omega)]
    simp [Array.getElem?_extract]
    omega
  · rw [if_neg h1]
    by_cases h2 : i = p
    · rw [if_pos h2, Array.getElem?_append_left (by rw [s2]; omega), Array.getElem?_push, if_pos (by rw [s1]; exact h2)]
    · rw [if_neg h2, Array.getElem?_append_right (by rw [s2]; omega), s2]
      simp only [Array.getElem?_extract]
      by_cases h3 : i - (p + 1) < xs.size - p
      · rw [if_pos (by omega)]
        congr 1
        omega
      · rw [if_neg (by omega)]
        symm
        rw [Array.getElem?_eq_none_iff]
        omega
theorem ins_size {α : Type} {xs : Array α} {p : Nat} (hp : p ≤ xs.size) (x : α) : (insertAt xs p x).size = xs.size + 1 := by
  unfold insertAt
  simp
  omega
theorem getD_get (xs : Array Nat) (i : Nat) : xs.getD i 0 = (xs[i]?).getD 0 := by
  by_cases h : i < xs.size <;> simp [Array.getD, h]
theorem ins_getD {xs : Array Nat} {p : Nat} (hp : p ≤ xs.size) (x i : Nat) : (insertAt xs p x).getD i 0 = if i < p then xs.getD i 0 else if i = p then x else xs.getD (i - 1) 0 := by
  rw [getD_get, ins_at hp, getD_get, getD_get]
  split
  · rfl
  · split <;> rfl
theorem ins_in {xs : Array Nat} {p : Nat} (hp : p ≤ xs.size) (x j : Nat) : In (insertAt xs p x) j ↔ In xs j ∨ j = x := by
  constructor
  · rintro ⟨i, hi, e⟩
    rw [ins_size hp] at hi
    rw [ins_getD hp] at e
    by_cases h1 : i < p
    · rw [if_pos h1] at e
      exact .inl ⟨i, by omega, e⟩
    · rw [if_neg h1] at e
      by_cases h2 : i = p
      · rw [if_pos h2] at e
        exact .inr e.symm
      · rw [if_neg h2] at e
        exact .inl ⟨i - 1, by omega, e⟩
  · rintro (⟨i, hi, e⟩ | rfl)
    · by_cases h1 : i < p
      · exact ⟨i, by rw [ins_size hp]; omega, by rw [ins_getD hp, if_pos h1]; exact e⟩
      · exact ⟨i + 1, by rw [ins_size hp]; omega, by rw [ins_getD hp, if_neg (by omega), if_neg (by omega)]; exact e⟩
    · exact ⟨p, by rw [ins_size hp]; omega, by rw [ins_getD hp, if_neg (Nat.lt_irrefl _), if_pos rfl]⟩
theorem ins_ris {xs : Array Nat} (r : Ris xs) {j : Nat} (h : ¬ In xs j) : Ris (insertAt xs (below xs j) j) := by
  obtain ⟨a, b, c⟩ := below_at r j
  have c' : ∀ i, below xs j ≤ i → i < xs.size → j < xs.getD i 0 := fun i h1 h2 => by
    have := c i h1 h2
    have : xs.getD i 0 ≠ j := fun z => h ⟨i, h2, z⟩
    omega
  intro i k hik hk
  rw [ins_size a] at hk
  rw [ins_getD a, ins_getD a]
  by_cases h1 : k < below xs j
  · rw [if_pos h1, if_pos (by omega)]
    exact r i k hik (by omega)
  · rw [if_neg h1]
    by_cases h2 : k = below xs j
    · rw [if_pos h2, if_pos (by omega)]
      exact b i (by omega)
    · rw [if_neg h2]
      by_cases h3 : i < below xs j
      · rw [if_pos h3]
        exact Nat.lt_trans (b i h3) (c' (k - 1) (by omega) (by omega))
      · rw [if_neg h3]
        by_cases h4 : i = below xs j
        · rw [if_pos h4]
          exact c' (k - 1) (by omega) (by omega)
        · rw [if_neg h4]
          exact r (i - 1) (k - 1) (by omega) (by omega)
theorem put_eq (t : SetTable) (hd : t.dummies = #[]) (j : Nat) : t.put j = ({ t with place := insertAt t.place (below t.place j) j }, below t.place j) := by
  unfold put
  dsimp only
  rw [hd, has_nil]
  obtain ⟨a, b, c, d, e, f, g⟩ := t
  dsimp only at hd
  subst hd
  rfl
theorem Tb.add {t : SetTable} {es : Array (Int × Value)} (b : Tb t es) (h : Int) (x : Value) (n : Nat) (hn : ¬ In t.place (sl t.mask h n)) (hm : sl t.mask h n ≤ t.mask) (hk : ∀ k, k < n → In t.place (sl t.mask h k)) :
    Tb (t.put (sl t.mask h n)).1 (insertAt es (t.put (sl t.mask h n)).2 (h, x)) := by
  rw [put_eq t b.dum]
  obtain ⟨a1, a2, a3⟩ := below_at b.ris (sl t.mask h n)
  have a1' : below t.place (sl t.mask h n) ≤ es.size := by rw [← b.size]; exact a1
  refine ⟨b.mask, b.dum, ?_, ins_ris b.ris hn, ?_, ?_⟩
  · rw [ins_size a1, ins_size a1', b.size]
  · intro i hi
    dsimp only at hi ⊢
    rw [ins_size a1] at hi
    rw [ins_getD a1]
    split
    · exact b.bnd i (by omega)
    · split
      · exact hm
      · exact b.bnd (i - 1) (by omega)
  · intro i hi
    dsimp only at hi ⊢
    rw [ins_size a1'] at hi
    have sub : ∀ j, In t.place j → In (insertAt t.place (below t.place (sl t.mask h n)) (sl t.mask h n)) j := fun j hj => (ins_in a1 _ j).mpr (.inl hj)
    have eh : hAt (insertAt es (below t.place (sl t.mask h n)) (h, x)) i = if i < below t.place (sl t.mask h n) then hAt es i else if i = below t.place (sl t.mask h n) then h else hAt es (i - 1) := by
      unfold hAt
      rw [ins_at a1']
      split
      · rfl
      · split <;> rfl
    rw [ins_getD a1, eh]
    by_cases h1 : i < below t.place (sl t.mask h n)
    · rw [if_pos h1, if_pos h1]
      obtain ⟨m, e, q⟩ := b.reach i (by omega)
      exact ⟨m, e, fun k hk => sub _ (q k hk)⟩
    · rw [if_neg h1, if_neg h1]
      by_cases h2 : i = below t.place (sl t.mask h n)
      · rw [if_pos h2, if_pos h2]
        exact ⟨n, rfl, fun k hk' => sub _ (hk k hk')⟩
      · rw [if_neg h2, if_neg h2]
        obtain ⟨m, e, q⟩ := b.reach (i - 1) (by omega)
        exact ⟨m, e, fun k hk => sub _ (q k hk)⟩
theorem run_bnd {m i : Nat} (h : i ≤ m) : i + (runEnd m i - i) ≤ m := by unfold runEnd; split <;> omega
theorem pAt_bnd (m : Nat) (h : Int) : ∀ n, (pAt m h n).j + (pAt m h n).more ≤ m
  | 0 => by
    have := Nat.mod_lt (bits h) (show 0 < m + 1 by omega)
    exact run_bnd (m := m) (i := bits h % (m + 1)) (by omega)
  | n + 1 => by
    have a := pAt_bnd m h n
    show (pNext m (pAt m h n)).j + (pNext m (pAt m h n)).more ≤ m
    unfold pNext advance
    split
    · show (pAt m h n).j + 1 + ((pAt m h n).more - 1) ≤ m
      omega
    · unfold leap
      dsimp only
      have := Nat.mod_lt ((pAt m h n).i * 5 + 1 + (pAt m h n).perturb / 32) (show 0 < m + 1 by omega)
      exact run_bnd (by omega)
theorem sl_le (m : Nat) (h : Int) (n : Nat) : sl m h n ≤ m := by
  have := pAt_bnd m h n
  unfold sl
  omega
/-! laid anew -/
abbrev Own := Array (Option Nat)
def Occ (o : Own) (j : Nat) : Prop := ∃ k, o[j]? = some (some k)
theorem run_slot (m : Nat) (q : Nat × Nat) : ∀ k, k ≤ runEnd m q.1 - q.1 → (nexts m (runAt m q) k).j = q.1 + k ∧ (nexts m (runAt m q) k).more = runEnd m q.1 - q.1 - k
  | 0, _ => ⟨rfl, rfl⟩
  | k + 1, h => by
    obtain ⟨a, b⟩ := run_slot m q k (by omega)
    show (pNext m (nexts m (runAt m q) k)).j = _ ∧ (pNext m (nexts m (runAt m q) k)).more = _
    unfold pNext advance
    rw [if_pos (by omega)]
    dsimp only
    rw [a, b]
    exact ⟨by omega, by omega⟩
theorem find_range {p : Nat → Bool} : ∀ (n : Nat), ((List.range n).find? p = none ∧ ∀ i, i < n → p i = false) ∨ ∃ k, k < n ∧ (List.range n).find? p = some k ∧ p k = true ∧ ∀ i, i < k → p i = false
  | 0 => .inl ⟨rfl, fun i h => absurd h (by omega)⟩
  | n + 1 => by
    rw [List.range_succ, List.find?_append]
    rcases find_range (p := p) n with ⟨a, b⟩ | ⟨k, h1, h2, h3, h4⟩
    · rw [a]
      cases c : p n with
      | true => exact .inr ⟨n, by omega, by simp [c], c, b⟩
      | false =>
        refine .inl ⟨by simp [c], fun i hi => ?_⟩
        by_cases e : i = n
        · rw [e]; exact c
        · exact b i (by omega)
    · rw [h2]
      exact .inr ⟨k, by omega, rfl, h3, h4⟩
theorem free_at {m : Nat} {o : Own} (hs : o.size = m + 1) (h : Int) : ∀ (f : Nat) (q : Nat × Nat) (n : Nat), q.1 ≤ m → pAt m h n = runAt m q → (∀ k, k < n → Occ o (sl m h k)) → (∃ L, L < f ∧ ¬ Occ o (jumps m q L).1) →
    ∃ n', layClean.free m o f q.1 q.2 = some (sl m h n') ∧ ¬ Occ o (sl m h n') ∧ ∀ k, k < n' → Occ o (sl m h k)
  | 0, q, n, hq, hp, ho, ⟨L, hL, _⟩ => absurd hL (by omega)
  | f + 1, q, n, hq, hp, ho, ⟨L, hL, hf⟩ => by
    unfold layClean.free
    have run : ∀ k, k < runEnd m q.1 + 1 - q.1 → sl m h (n + k) = q.1 + k := fun k hk => by
      unfold sl
      rw [pAt_nexts, hp]
      exact (run_slot m q k (by omega)).1
    have rb := run_bnd hq
    have rl : q.1 ≤ runEnd m q.1 := by unfold runEnd; split <;> omega
    have no : ∀ j, j ≤ m → (((o.getD j (some 0)).isNone = false → Occ o j) ∧ ((o.getD j (some 0)).isNone = true → ¬ Occ o j)) := fun j hj => by
      have hj' : j < o.size := by omega
      have e : o[j]? = some (o.getD j (some 0)) := by simp [Array.getD, hj']
      constructor
      · intro z
        cases c : o.getD j (some 0) with
        | none => rw [c] at z; cases z
        | some k => exact ⟨k, by rw [e, c]⟩
      · rintro z ⟨k, hk⟩
        rw [e] at hk
        rw [Option.some.inj hk] at z
        cases z
    rcases find_range (p := fun k => (o.getD (q.1 + k) (some 0)).isNone) (runEnd m q.1 + 1 - q.1) with ⟨a, b⟩ | ⟨k, h1, h2, h3, h4⟩
    · rw [a]
      dsimp only
      have all : ∀ k, k < n + (runEnd m q.1 - q.1 + 1) → Occ o (sl m h k) := fun k hk => by
        by_cases c : k < n
        · exact ho k c
        · have e : k = n + (k - n) := by omega
          rw [e, run (k - n) (by omega)]
          exact (no _ (by omega)).1 (b (k - n) (by omega))
      have hj : (jump m q).1 ≤ m := by
        show (leap m _ _).1 ≤ m
        unfold leap
        have := Nat.mod_lt (q.1 * 5 + 1 + q.2 / 32) (show 0 < m + 1 by omega)
        dsimp only
        omega
      have hp' : pAt m h (n + (runEnd m q.1 - q.1 + 1)) = runAt m (jump m q) := by
        rw [pAt_nexts, hp]
        exact run_out m _ (runAt m q) rfl rfl
      have hL0 : L ≠ 0 := by
        rintro rfl
        apply hf
        have := (no q.1 hq).1 (b 0 (by unfold runEnd; split <;> omega))
        exact this
      obtain ⟨L', rfl⟩ : ∃ L', L = L' + 1 := ⟨L - 1, by omega⟩
      exact free_at hs h f (jump m q) _ hj hp' all ⟨L', by omega, by
        rw [show L' + 1 = 1 + L' by omega, jumps_add] at hf
        exact hf⟩
    · rw [h2]
      dsimp only
      refine ⟨n + k, by rw [run k h1], ?_, fun k' hk' => ?_⟩
      · rw [run k h1]
        exact (no _ (by omega)).2 h3
      · by_cases c : k' < n
        · exact ho k' c
        · have e : k' = n + (k' - n) := by omega
          rw [e, run (k' - n) (by omega)]
          exact (no _ (by omega)).1 (h4 (k' - n) (by omega))
theorem meetsJ {m : Nat} (hm : Msk m) (q : Nat × Nat) (hp : q.2 < 2 ^ 64) {e : Nat} (he : e ≤ m) : ∃ L, L < turns m ∧ (jumps m q L).1 = e := by
  have z : (jumps m q 13).2 = 0 := by
    rw [jumps_pert]
    apply Nat.div_eq_of_lt
    have h2 : (2 : Nat) ^ 64 < 32 ^ 13 := by decide
    omega
  have j13 : (jumps m q 13).1 ≤ m := by
    show (leap m _ _).1 ≤ m
    unfold leap
    have := Nat.mod_lt ((jumps m q 12).1 * 5 + 1 + (jumps m q 12).2 / 32) (show 0 < m + 1 by omega)
    dsimp only
    omega
  obtain ⟨k, hk, ek⟩ := covers hm j13 he
  refine ⟨13 + k, by unfold turns; omega, ?_⟩
  rw [jumps_add]
  have e13 : jumps m q 13 = ((jumps m q 13).1, 0) := Prod.ext rfl z
  rw [e13, jumps_zero]
  exact ek
/-- where the first entries lie -/
structure Lay (m : Nat) (hs : List Int) (o : Own) (ss : Nat → Nat) : Prop where
  size : o.size = m + 1
  at_ : ∀ i, i < hs.length → ss i ≤ m ∧ o[ss i]? = some (some i)
  of_ : ∀ j k, o[j]? = some (some k) → k < hs.length ∧ ss k = j
  reach : ∀ (i : Nat) h, hs[i]? = some h → ∃ n, sl m h n = ss i ∧ ∀ k, k < n → Occ o (sl m h k)
theorem Lay.step {m : Nat} (hm : Msk m) {hs : List Int} {o : Own} {ss : Nat → Nat} (l : Lay m hs o ss) (h : Int) (hl : hs.length ≤ m) :
    ∃ j, layClean.free m o (turns m) (bits h % (m + 1)) (bits h) = some j ∧ ∃ ss', Lay m (hs ++ [h]) (o.setIfInBounds j (some hs.length)) ss' := by
  obtain ⟨e, he, hne⟩ : ∃ e, e ≤ m ∧ ¬ Occ o e := by
    refine Classical.byContradiction fun z => ?_
    have := pigeon hs.length (m + 1) ss fun j hj => by
      rcases Classical.em (Occ o j) with ⟨k, hk⟩ | c
      · exact ⟨k, (l.of_ j k hk).1, (l.of_ j k hk).2⟩
      · exact absurd ⟨j, by omega, c⟩ z
    omega
  obtain ⟨L, hL, eL⟩ := meetsJ hm (bits h % (m + 1), bits h) (bits_lt h) he
  have i0 := Nat.mod_lt (bits h) (show 0 < m + 1 by omega)
  obtain ⟨n, e1, e2, e3⟩ := free_at l.size h (turns m) (bits h % (m + 1), bits h) 0 (by omega) rfl (fun k hk => absurd hk (by omega)) ⟨L, hL, by rw [eL]; exact hne⟩
  have jm := sl_le m h n
  have js : sl m h n < o.size := by rw [l.size]; omega
  refine ⟨sl m h n, e1, fun i => if i = hs.length then sl m h n else ss i, ?_⟩
  have set_ : ∀ j, (o.setIfInBounds (sl m h n) (some hs.length))[j]? = if j = sl m h n then some (some hs.length) else o[j]? := fun j => by
    rw [Array.getElem?_setIfInBounds]
    by_cases c : sl m h n = j
    · rw [if_pos c, if_pos c.symm]
      simp [← c, js]
    · rw [if_neg c, if_neg fun z => c z.symm]
  have sub : ∀ j, Occ o j → Occ (o.setIfInBounds (sl m h n) (some hs.length)) j := fun j ⟨k, hk⟩ => by
    refine ⟨k, ?_⟩
    rw [set_, if_neg]
    · exact hk
    · rintro rfl
      exact e2 ⟨k, hk⟩
  refine ⟨by rw [Array.size_setIfInBounds]; exact l.size, fun i hi => ?_, fun j k hk => ?_, fun i h' hh' => ?_⟩
  · rw [List.length_append, List.length_singleton] at hi
    by_cases c : i = hs.length
    · rw [if_pos c, set_, if_pos rfl, c]
      exact ⟨jm, rfl⟩
    · rw [if_neg c, set_]
      obtain ⟨a, b⟩ := l.at_ i (by omega)
      refine ⟨a, ?_⟩
      rw [if_neg]
      · exact b
      · intro z
        rw [z] at b
        exact e2 ⟨i, b⟩
  · rw [set_] at hk
    rw [List.length_append, List.length_singleton]
    by_cases c : j = sl m h n
    · rw [if_pos c] at hk
      cases hk
      exact ⟨by omega, by rw [if_pos rfl]; exact c.symm⟩
    · rw [if_neg c] at hk
      obtain ⟨a, b⟩ := l.of_ j k hk
      exact ⟨by omega, by rw [if_neg (by omega)]; exact b⟩
  · by_cases c : i < hs.length
    · rw [List.getElem?_append_left c] at hh'
      obtain ⟨n', a, b⟩ := l.reach i h' hh'
      rw [if_neg (by omega)]
      exact ⟨n', a, fun k hk => sub _ (b k hk)⟩
    · have hlt := (List.getElem?_eq_some_iff.mp hh').1
      rw [List.length_append, List.length_singleton] at hlt
      obtain rfl : i = hs.length := by omega
      rw [List.getElem?_append_right (Nat.le_refl _), Nat.sub_self] at hh'
      cases hh'
      rw [if_pos rfl]
      exact ⟨n, rfl, fun k hk => sub _ (e3 k hk)⟩
def layStep (m : Nat) (acc : Option (Own × Nat)) (h : Int) : Option (Own × Nat) := do
  let (owner, k) ← acc
  let j ← layClean.free m owner (turns m) (bits h % (m + 1)) (bits h)
  pure (owner.setIfInBounds j (some k), k + 1)
theorem lay_fold {m : Nat} (hm : Msk m) : ∀ (more hs : List Int) (o : Own) (ss : Nat → Nat), Lay m hs o ss → hs.length + more.length ≤ m + 1 →
    ∃ o' ss', more.foldl (layStep m) (some (o, hs.length)) = some (o', (hs ++ more).length) ∧ Lay m (hs ++ more) o' ss'
  | [], hs, o, ss, l, _ => ⟨o, ss, by simp, by simpa using l⟩
  | h :: more, hs, o, ss, l, hl => by
    rw [List.length_cons] at hl
    obtain ⟨j, e, ss', l'⟩ := l.step hm h (by omega)
    obtain ⟨o', ss2, e2, l2⟩ := lay_fold hm more (hs ++ [h]) _ ss' l' (by rw [List.length_append, List.length_singleton]; omega)
    rw [List.append_assoc, List.singleton_append] at e2 l2
    refine ⟨o', ss2, ?_, l2⟩
    rw [List.foldl_cons]
    have es : layStep m (some (o, hs.length)) h = some (o.setIfInBounds j (some hs.length), (hs ++ [h]).length) := by
      unfold layStep
      simp only [Option.bind_eq_bind, Option.bind_some, e]
      simp
    rw [es]
    exact e2
theorem lay_clean {m : Nat} (hm : Msk m) (hs : Array Int) (hl : hs.size ≤ m + 1) : ∃ o ss, layClean m hs = some o ∧ Lay m hs.toList o ss := by
  have l0 : Lay m [] (Array.replicate (m + 1) none) (fun _ => 0) := ⟨by simp, fun i hi => absurd hi (by simp), fun j k hk => (by
    rw [Array.getElem?_replicate] at hk
    split at hk <;> cases hk), fun i h e => by simp at e⟩
  obtain ⟨o, ss, e, l⟩ := lay_fold hm hs.toList [] _ _ l0 (by simpa using hl)
  refine ⟨o, ss, ?_, by simpa using l⟩
  unfold layClean
  have : hs.foldl (init := some (Array.replicate (m + 1) none, 0)) (layStep m) = some (o, ([] ++ hs.toList).length) := by
    rw [← Array.foldl_toList]
    exact e
  have e2 : (hs.foldl (init := some (Array.replicate (m + 1) none, 0)) fun acc h => do
    let (owner, k) ← acc
    let j ← layClean.free m owner (turns m) (bits h % (m + 1)) (bits h)
    pure (owner.setIfInBounds j (some k), k + 1)) = hs.foldl (init := some (Array.replicate (m + 1) none, 0)) (layStep m) := rfl
  rw [e2, this]
  rfl
def liveL (m : Nat) (o : Own) : List (Nat × Nat) := (List.range (m + 1)).filterMap fun j => (o.getD j none).map (j, ·)
theorem live_mem {m : Nat} {o : Own} (hs : o.size = m + 1) (j k : Nat) : (j, k) ∈ liveL m o ↔ o[j]? = some (some k) := by
  unfold liveL
  rw [List.mem_filterMap]
  constructor
  · rintro ⟨a, ha, e⟩
    obtain ⟨k', e1, e2⟩ := Option.map_eq_some_iff.mp e
    cases e2
    have hj : j < o.size := by rw [hs]; simpa using ha
    have e : o[j]? = some (o.getD j none) := by simp [Array.getD, hj]
    rw [e, e1]
  · intro e
    obtain ⟨hj, e2⟩ := Array.getElem?_eq_some_iff.mp e
    refine ⟨j, by simpa [hs] using hj, ?_⟩
    have : o.getD j none = some k := by simp [Array.getD, hj, e2]
    rw [this]
    rfl
theorem live_up (m : Nat) (o : Own) : (liveL m o).Pairwise fun a b => a.1 < b.1 := by
  unfold liveL
  rw [List.pairwise_filterMap]
  refine List.Pairwise.imp ?_ (List.pairwise_lt_range (n := m + 1))
  intro a b hab x hx y hy
  obtain ⟨_, _, e1⟩ := Option.map_eq_some_iff.mp hx
  obtain ⟨_, _, e2⟩ := Option.map_eq_some_iff.mp hy
  rw [← e1, ← e2]
  exact hab
structure Laid (m : Nat) (hs : Array Int) (pl od : Array Nat) : Prop where
  ps : pl.size = hs.size
  os : od.size = hs.size
  ris : Ris pl
  bnd : ∀ i, i < pl.size → pl.getD i 0 ≤ m
  lt : ∀ i, i < hs.size → od.getD i 0 < hs.size
  inj : ∀ i j, i < hs.size → j < hs.size → od.getD i 0 = od.getD j 0 → i = j
  sur : ∀ k, k < hs.size → ∃ i, i < hs.size ∧ od.getD i 0 = k
  reach : ∀ i, i < hs.size → ∃ n, sl m (hs.getD (od.getD i 0) 0) n = pl.getD i 0 ∧ ∀ k, k < n → In pl (sl m (hs.getD (od.getD i 0) 0) k)
theorem laid_ok {m : Nat} (hm : Msk m) (fg mv : Nat) (led plain : Bool) (hs : Array Int) (hl : hs.size ≤ m + 1) :
    ∃ pl od, laid m fg mv led plain hs = some ({ mask := m, place := pl, dummies := #[], finger := fg, led := led, moves := mv, plain := plain }, od) ∧ Laid m hs pl od := by
  obtain ⟨o, ss, e, l⟩ := lay_clean hm hs hl
  have ln : hs.toList.length = hs.size := Array.length_toList
  refine ⟨((liveL m o).map (·.1)).toArray, ((liveL m o).map (·.2)).toArray, ?_, ?_⟩
  · unfold laid
    rw [e]
    rfl
  have at_ : ∀ i (h : i < (liveL m o).length), ((liveL m o).map (·.1)).toArray.getD i 0 = (liveL m o)[i].1 ∧ ((liveL m o).map (·.2)).toArray.getD i 0 = (liveL m o)[i].2 ∧ o[(liveL m o)[i].1]? = some (some (liveL m o)[i].2) := fun i h => by
    refine ⟨by simp [Array.getD, h], by simp [Array.getD, h], (live_mem l.size _ _).mp ?_⟩
    exact List.getElem_mem h
  have ris : Ris ((liveL m o).map (·.1)).toArray := fun i j hij hj => by
    have hj' : j < (liveL m o).length := by simpa using hj
    rw [(at_ i (by omega)).1, (at_ j hj').1]
    exact List.pairwise_iff_getElem.mp (live_up m o) i j (by omega) hj' hij
  have sur : ∀ k, k < hs.size → ∃ i, ∃ h : i < (liveL m o).length, (liveL m o)[i].2 = k ∧ (liveL m o)[i].1 = ss k := fun k hk => by
    have := (live_mem l.size (ss k) k).mpr (l.at_ k (by rw [ln]; exact hk)).2
    obtain ⟨i, hi, e⟩ := List.mem_iff_getElem.mp this
    exact ⟨i, hi, by rw [e], by rw [e]⟩
  have size : (liveL m o).length = hs.size := by
    have h1 := pigeon (liveL m o).length hs.size (fun i => ((liveL m o).map (·.2)).toArray.getD i 0) fun k hk => by
      obtain ⟨i, hi, e, _⟩ := sur k hk
      exact ⟨i, hi, by rw [(at_ i hi).2.1, e]⟩
    have h2 := pigeon hs.size (liveL m o).length (fun k => below ((liveL m o).map (·.1)).toArray (ss k)) fun i hi => by
      obtain ⟨a1, a2, a3⟩ := at_ i hi
      obtain ⟨b1, b2⟩ := l.of_ _ _ a3
      refine ⟨(liveL m o)[i].2, by omega, ?_⟩
      rw [b2, ← a1]
      exact below_in ris (by simpa using hi)
    omega
  have inOcc : ∀ j, Occ o j → In ((liveL m o).map (·.1)).toArray j := fun j ⟨k, hk⟩ => by
    obtain ⟨i, hi, e⟩ := List.mem_iff_getElem.mp ((live_mem l.size j k).mpr hk)
    exact ⟨i, by simpa using hi, by rw [(at_ i hi).1, e]⟩
  refine ⟨by simpa using size, by simpa using size, ris, fun i hi => ?_, fun i hi => ?_, fun i j hi hj e => ?_, fun k hk => ?_, fun i hi => ?_⟩
  · have hi' : i < (liveL m o).length := by simpa using hi
    obtain ⟨a1, a2, a3⟩ := at_ i hi'
    rw [a1]
    have := (Array.getElem?_eq_some_iff.mp a3).1
    have := l.size
    omega
  · obtain ⟨a1, a2, a3⟩ := at_ i (by omega)
    rw [a2]
    have := (l.of_ _ _ a3).1
    omega
  · obtain ⟨a1, a2, a3⟩ := at_ i (by omega)
    obtain ⟨b1, b2, b3⟩ := at_ j (by omega)
    rw [a2, b2] at e
    have e1 := (l.of_ _ _ a3).2
    have e2 := (l.of_ _ _ b3).2
    rw [e, e2] at e1
    by_cases c : i < j
    · have := ris i j c (by simp; omega)
      omega
    · by_cases c2 : j < i
      · have := ris j i c2 (by simp; omega)
        omega
      · omega
  · obtain ⟨i, hi, e, _⟩ := sur k hk
    exact ⟨i, by omega, by rw [(at_ i hi).2.1, e]⟩
  · obtain ⟨a1, a2, a3⟩ := at_ i (by omega)
    obtain ⟨b1, b2⟩ := l.of_ _ _ a3
    have hk : (liveL m o)[i].2 < hs.size := by omega
    have eh : hs.toList[(liveL m o)[i].2]? = some (hs.getD (liveL m o)[i].2 0) := by simp [Array.getD, hk]
    obtain ⟨n, e, q⟩ := l.reach _ _ eh
    rw [a1, a2]
    exact ⟨n, by rw [e, b2], fun k hk => inOcc _ (q k hk)⟩
theorem fm_map {α β : Type} {f : α → Option β} {g : α → β} : ∀ (l : List α), (∀ a ∈ l, f a = some (g a)) → l.filterMap f = l.map g
  | [], _ => rfl
  | a :: l, h => by
    rw [List.filterMap_cons_some (h a (by simp)), List.map_cons, fm_map l fun b hb => h b (by simp [hb])]
theorem above20 : sizeAbove 20 = 32 := by decide
theorem above76 : sizeAbove 76 = 128 := by decide
/-- the table that is laid anew when it is too full -/
theorem Tb.again {t : SetTable} {es : Array (Int × Value)} (hm : (t.mask = 7 ∧ es.size = 5) ∨ (t.mask = 31 ∧ es.size = 19)) :
    ∃ pl od, t.relaid (es.map (·.1)) (grown es.size) = some ({ mask := sizeAbove (grown es.size) - 1, place := pl, dummies := #[], finger := t.finger, led := t.led, moves := t.movedTo (sizeAbove (grown es.size) - 1), plain := t.plain }, od) ∧
      Tb { mask := sizeAbove (grown es.size) - 1, place := pl, dummies := #[], finger := t.finger, led := t.led, moves := t.movedTo (sizeAbove (grown es.size) - 1), plain := t.plain } (od.filterMap (es[·]?)) ∧
      (od.filterMap (es[·]?)).size = es.size ∧ (∀ i, i < es.size → ∃ k, k < es.size ∧ (od.filterMap (es[·]?))[i]? = es[k]? ∧ k = od.getD i 0) ∧
      (∀ i j, i < es.size → j < es.size → od.getD i 0 = od.getD j 0 → i = j) ∧ (∀ k, k < es.size → ∃ i, i < es.size ∧ od.getD i 0 = k) ∧
      es.size * 5 < (sizeAbove (grown es.size) - 1) * 3 ∧ sizeAbove (grown es.size) ≤ sizeLine := by
  have hM : Msk (sizeAbove (grown es.size) - 1) ∧ es.size ≤ sizeAbove (grown es.size) - 1 + 1 ∧ es.size * 5 < (sizeAbove (grown es.size) - 1) * 3 ∧ sizeAbove (grown es.size) ≤ sizeLine := by
    rcases hm with ⟨_, e⟩ | ⟨_, e⟩
    · rw [e, show grown 5 = 20 from rfl, above20]
      exact ⟨.inr (.inl rfl), by decide, by decide, by decide⟩
    · rw [e, show grown 19 = 76 from rfl, above76]
      exact ⟨.inr (.inr rfl), by decide, by decide, by decide⟩
  have sz : (es.map (·.1)).size = es.size := Array.size_map
  obtain ⟨pl, od, e, L⟩ := laid_ok hM.1 t.finger (t.movedTo (sizeAbove (grown es.size) - 1)) t.led t.plain (es.map (·.1)) (by rw [sz]; exact hM.2.1)
  have odlt : ∀ i, i < es.size → od.getD i 0 < es.size := fun i hi => by have := L.lt i (by rw [sz]; exact hi); rw [sz] at this; exact this
  have ods : od.size = es.size := by rw [L.os, sz]
  have fm : od.filterMap (es[·]?) = od.map fun k => es.getD k (0, .none) := by
    apply Array.toList_inj.mp
    rw [Array.toList_filterMap, Array.toList_map]
    refine fm_map _ fun k hk => ?_
    obtain ⟨i, hi, ei⟩ := List.mem_iff_getElem.mp hk
    have hi' : i < od.size := by simpa using hi
    have : k < es.size := by
      have := odlt i (by omega)
      simp only [Array.getD, hi', dite_true] at this
      simp only [Array.getElem_toList] at ei
      rw [← ei]
      exact this
    simp [Array.getD, this]
  have fs : (od.filterMap (es[·]?)).size = es.size := by rw [fm, Array.size_map, ods]
  have fat : ∀ i, i < es.size → (od.filterMap (es[·]?))[i]? = es[od.getD i 0]? := fun i hi => by
    have h2 := odlt i hi
    have hi' : i < od.size := by omega
    rw [fm, Array.getElem?_map]
    have e1 : od[i]? = some (od.getD i 0) := by simp [Array.getD, hi']
    rw [e1]
    simp only [Option.map_some]
    generalize od.getD i 0 = k at h2 ⊢
    simp [Array.getD, h2]
  refine ⟨pl, od, e, ⟨hM.1, rfl, by rw [fs]; show pl.size = _; rw [L.ps, sz], L.ris, L.bnd, fun i hi => ?_⟩, fs, fun i hi => ⟨od.getD i 0, odlt i hi, fat i hi, rfl⟩, fun i j hi hj => L.inj i j (by rw [sz]; exact hi) (by rw [sz]; exact hj), fun k hk => ?_, hM.2.2⟩
  · rw [fs] at hi
    obtain ⟨n, e1, e2⟩ := L.reach i (by rw [sz]; exact hi)
    have eh : (es.map (·.1)).getD (od.getD i 0) 0 = hAt (od.filterMap (es[·]?)) i := by
      unfold hAt
      rw [fat i hi]
      have h2 := odlt i hi
      generalize od.getD i 0 = k at h2 ⊢
      simp [Array.getD, h2]
    rw [eh] at e1 e2
    exact ⟨n, e1, e2⟩
  · obtain ⟨i, hi, ei⟩ := L.sur k (by rw [sz]; exact hk)
    exact ⟨i, by rw [sz] at hi; exact hi, ei⟩
end L2
/-! ### a set of tuples of ints: search and add -/
namespace L2
open PySem PySem.SetTable PySem.Spec PyProof.Rows
section
variable {prog : Program} {w : World} {A : Around} {E : Value → Shared → Prop} {s : Shared}
theorem items_cv {k : List Int} {vs : List Value} (h : ItemsAre (intKind prog w) k vs) : ∀ v ∈ vs, ∃ n t, v = .int n t := by
  induction h with
  | nil => intro v hv; simp at hv
  | @cons k v' ks vs h1 _ ih =>
    intro v hv
    rcases List.mem_cons.mp hv with rfl | hv
    · cases v with
      | int n t => exact ⟨n, t, rfl⟩
      | _ => exact absurd h1 (by simp [intKind, Value.isInt])
    · exact ih v hv
theorem ofClass_tup {k : List Int} {x : Addr} {Q : Bool → Shared → Prop} (hx : IsTupleKey (intKind prog w) s.heap k x) (h : Q false s) :
    wpAny (model prog w) A (ofAClassStatement 8 (.ref x)) Q E s := by
  have hT := hx.typeIs
  obtain ⟨o, items, n, ho, hc, hd, hi⟩ := hx
  unfold ofAClassStatement
  refine wpAny_bind (wpAny_typeOf hT ?_)
  show wpAny _ _ ((if ("tuple" == "tuple") = true then pure true else isSubtype (.type "tuple") (.type "tuple")) >>= _) _ _ s
  refine wpAny_bind (wpAny_pure ?_)
  simp only [Bool.not_true, Bool.false_eq_true, if_false]
  refine wpAny_bind (wpAny_seqItems ho hd ?_)
  refine wpAny_bind ?_
  show wpAny _ _ (forIn items _ _) _ _ s
  rw [← Array.forIn_toList]
  refine wpAny_forIn_list _ (fun rest r s' => r.1 = none ∧ s' = s ∧ ∀ v ∈ rest, ∃ n t, v = Value.int n t) _ ?_ ?_ _ _ ⟨rfl, rfl, items_cv hi⟩
  · rintro v rest r s' ⟨hr, rfl, hall⟩
    obtain ⟨n, t, rfl⟩ := hall v List.mem_cons_self
    refine wpAny_bind (wpAny_of_eq (show ofAClassStatement 7 (.int n t) = pure false from by unfold ofAClassStatement; rfl) (wpAny_pure ?_))
    simp only [Bool.false_eq_true, if_false]
    exact ⟨trivial, trivial, fun u hu' => hall u (List.mem_cons_of_mem _ hu')⟩
  · rintro ⟨r1, r2⟩ s' ⟨hr, rfl, _⟩
    simp only at hr
    subst hr
    exact wpAny_pure h
theorem seen_tup {k : List Int} {x : Addr} {Q : Bool → Shared → Prop} (hx : IsTupleKey (intKind prog w) s.heap k x) (ys : List Value)
    (hy : ∀ y ∈ ys, ∃ b j, y = .ref b ∧ IsTupleKey (intKind prog w) s.heap j b) (h : Q false s) :
    wpAny (model prog w) A (searchCouldBeSeen (.ref x) ys) Q E s := by
  unfold searchCouldBeSeen
  refine wpAny_bind ?_
  refine wpAny_forIn_list _ (fun rest r s' => r.1 = none ∧ s' = s ∧ ∀ v ∈ rest, ∃ b j, v = Value.ref b ∧ IsTupleKey (intKind prog w) s.heap j b) _ ?_ ?_ _ _ ⟨rfl, rfl, hy⟩
  · rintro v rest r s' ⟨hr, rfl, hall⟩
    obtain ⟨b, j, rfl, hj⟩ := hall v List.mem_cons_self
    have hall' : ∀ u ∈ rest, ∃ b j, u = Value.ref b ∧ IsTupleKey (intKind prog w) s'.heap j b := fun u hu' => hall u (List.mem_cons_of_mem _ hu')
    dsimp only
    split
    · exact wpAny_pure ⟨rfl, rfl, hall'⟩
    · refine wpAny_bind (wpAny_eqIsQuiet_tuple hx ?_)
      simp only [Bool.not_true, Bool.false_eq_true, if_false]
      refine wpAny_bind (wpAny_eqIsQuiet_tuple hj ?_)
      simp only [Bool.not_true, Bool.false_eq_true, if_false]
      refine wpAny_bind (ofClass_tup hx ?_)
      simp only [Bool.false_eq_true, if_false]
      refine wpAny_bind (ofClass_tup hj ?_)
      simp only [Bool.false_eq_true, if_false]
      exact wpAny_pure ⟨rfl, rfl, hall'⟩
  · rintro ⟨r1, r2⟩ s' ⟨hr, rfl, _⟩
    simp only at hr
    subst hr
    exact wpAny_pure h
/-- the entries of a set of tuples of ints -/
structure Ent (prog : Program) (w : World) (h : Heap) (es : Array (Int × Value)) : Prop where
  ent : ∀ i, i < es.size → ∃ k b, es[i]? = some (tupleKeyHash (intKind prog w) k, .ref b) ∧ IsTupleKey (intKind prog w) h k b
  dis : ∀ (i j : Nat) (k : List Int) (b c : Addr) (g g' : Int), es[i]? = some (g, Value.ref b) → es[j]? = some (g', Value.ref c) → IsTupleKey (intKind prog w) h k b → IsTupleKey (intKind prog w) h k c → i = j
/-- the key k is among the entries -/
def HasK (prog : Program) (w : World) (h : Heap) (es : Array (Int × Value)) (k : List Int) : Prop := ∃ (i : Nat) (b : Addr), es[i]? = some (tupleKeyHash (intKind prog w) k, .ref b) ∧ IsTupleKey (intKind prog w) h k b
theorem search_eq (a : Addr) (x : Value) (h : Int) (adding : Bool) (fuel : Nat) (stand : Option Probe) : setSearchFrom a x h adding (fuel + 1) stand = (do
    let (es, _, t) ← setState a
    if t.gaveWay then unsupported "set:on-a-table-that-gave-way"
    let some met := t.probe (hAt es) h (stand.getD (t.probeStart h)) | unsupported "internal:set-table-without-an-empty-slot"
    match met with
    | .empty j dummy =>
      match dummy with
      | none => return .free j false
      | some d =>
        if adding && t.slot d != .dummy then rule "set.search.the-dummy-was-taken"; return ← setSearchFrom a x h adding fuel none
        return .free d true
    | .candidate j i next =>
      if !t.led then
        if ← searchCouldBeSeen x ((es.filter (·.1 == h)).toList.map (·.2)) then unsupported "set:the-search-would-show-the-table"
      let some (_, y) := es[i]? | unsupported "internal:set-entry"
      let equal ← holding [y] (eqBool y x)
      let (es', _, t') ← setState a
      if adding && equal then return .there none
      let some same := t'.sameMemory t.moves t.mask | unsupported "set.changed-during-lookup:is-the-new-block-at-the-old-address"
      let still ← match (if same then t'.slot j else .empty) with
        | .live i' => match es'[i']? with
          | some (_, y') => do pure (if ← isSame y' y then some i' else none)
          | none => pure none
        | _ => pure none
      match still with
      | none => rule "set.search.anew"; setSearchFrom a x h adding fuel none
      | some i' => if equal then return .there (some i') else setSearchFrom a x h adding fuel (some next)) := rfl
theorem key_hash {h : Heap} {es : Array (Int × Value)} (e : Ent prog w h es) {i : Nat} (hi : i < es.size) {k : List Int} {b : Addr} {g : Int} (he : es[i]? = some (g, .ref b)) (hk : IsTupleKey (intKind prog w) h k b) :
    g = tupleKeyHash (intKind prog w) k := by
  obtain ⟨k', b', e', hk'⟩ := e.ent i hi
  rw [e'] at he
  simp only [Option.some.injEq, Prod.mk.injEq, Value.ref.injEq] at he
  obtain ⟨rfl, rfl⟩ := he
  rw [hk.inj hk']
theorem get_lt {α : Type} {xs : Array α} {i : Nat} {a : α} (h : xs[i]? = some a) : i < xs.size := by
  rcases Nat.lt_or_ge i xs.size with c | c
  · exact c
  · rw [Array.getElem?_eq_none c] at h; exact nomatch h
theorem tb_fits {es : Array (Int × Value)} {t : SetTable} (b : Tb t es) (hs : es.size ≤ t.mask) : t.fits es.size = true := by
  have h1 : t.fill ≤ t.mask := by
    unfold SetTable.fill
    rw [b.dum, b.size]
    exact hs
  unfold SetTable.fits
  rw [b.size, decide_eq_true h1]
  simp
theorem search_tup {a : Addr} {o : Obj} {es : Array (Int × Value)} {ep : Nat} {t : SetTable} (ho : s.heap.get? a = some o) (hd : o.data = .set es ep t) (b : Tb t es) (hs : es.size ≤ t.mask)
    (hu : A.units < cLine) (en : Ent prog w s.heap es) {k : List Int} {x : Addr} (hx : IsTupleKey (intKind prog w) s.heap k x) {Q : SetFound → Shared → Prop}
    (hT : HasK prog w s.heap es k → Q (.there none) s)
    (hF : ∀ n, ¬ In t.place (sl t.mask (tupleKeyHash (intKind prog w) k) n) → (∀ j, j < n → In t.place (sl t.mask (tupleKeyHash (intKind prog w) k) j)) → ¬ HasK prog w s.heap es k →
      Q (.free (sl t.mask (tupleKeyHash (intKind prog w) k) n) false) s) :
    ∀ (fuel n0 : Nat) (stand : Option Probe), (∃ N, n0 ≤ N ∧ N < n0 + fuel ∧ ¬ In t.place (sl t.mask (tupleKeyHash (intKind prog w) k) N)) →
      (∀ j, j < n0 → ∃ i, i < t.place.size ∧ t.place.getD i 0 = sl t.mask (tupleKeyHash (intKind prog w) k) j ∧ ∀ g c, es[i]? = some (g, Value.ref c) → ¬ IsTupleKey (intKind prog w) s.heap k c) →
      stand.getD (t.probeStart (tupleKeyHash (intKind prog w) k)) = pAt t.mask (tupleKeyHash (intKind prog w) k) n0 →
      wpAny (model prog w) A (setSearchFrom a (.ref x) (tupleKeyHash (intKind prog w) k) true fuel stand) Q E s
  | 0, n0, _, ⟨N, h1, h2, _⟩, _, _ => absurd h2 (by omega)
  | fuel + 1, n0, stand, ⟨N, h1, h2, h3⟩, hp, hst => by
    have hf : t.fits es.size = true := tb_fits b hs
    have hw : t.gaveWay = false := by
      unfold SetTable.gaveWay
      rcases b.mask with e | e | e <;> rw [e] <;> rfl
    rw [search_eq]
    refine wpAny_bind (wpAny_setState_of ho hd hf ?_)
    dsimp only
    rw [hw, hst]
    simp only [Bool.false_eq_true, if_false]
    obtain ⟨n, hn, hq, hr⟩ := b.probe hs (hAt es) (tupleKeyHash (intKind prog w) k) n0
    have hp' : ∀ j, j < n → ∃ i, i < t.place.size ∧ t.place.getD i 0 = sl t.mask (tupleKeyHash (intKind prog w) k) j ∧ ∀ g c, es[i]? = some (g, Value.ref c) → ¬ IsTupleKey (intKind prog w) s.heap k c := by
      intro j hj
      rcases Nat.lt_or_ge j n0 with c | c
      · exact hp j c
      · obtain ⟨i, hi, ei, eh⟩ := hq j c hj
        refine ⟨i, hi, ei, fun g c e hk => ?_⟩
        have := key_hash en (by rw [← b.size]; exact hi) e hk
        unfold hAt at eh
        rw [e] at eh
        simp [this] at eh
    rcases hr with ⟨r1, r2⟩ | ⟨i, hi, ei, eh, r2⟩
    · rw [r2]
      refine wpAny_pure (hF n r1 (fun j hj => ?_) fun ⟨i, c, e, hk⟩ => ?_)
      · obtain ⟨i, hi, ei, _⟩ := hp' j hj
        exact ⟨i, hi, ei⟩
      · have hil := get_lt e
        obtain ⟨m, em, hm⟩ := b.reach i hil
        have eha : hAt es i = tupleKeyHash (intKind prog w) k := by unfold hAt; rw [e]; rfl
        rw [eha] at em hm
        have hmn : m < n := by
          rcases Nat.lt_or_ge m n with c | c
          · exact c
          · exfalso
            rcases Nat.lt_or_ge n m with d | d
            · exact r1 (hm n d)
            · have : m = n := by omega
              subst this
              exact r1 ⟨i, by rw [b.size]; exact hil, em.symm⟩
        obtain ⟨i', hi', ei', hno⟩ := hp' m hmn
        have : i' = i := by
          rcases Nat.lt_trichotomy i' i with c | c | c
          · have := b.ris i' i c (by rw [b.size]; exact hil); omega
          · exact c
          · have := b.ris i i' c hi'; omega
        subst this
        exact hno _ _ e hk
    · rw [r2]
      dsimp only
      have hil : i < es.size := by rw [← b.size]; exact hi
      obtain ⟨k', y, ey, hy⟩ := en.ent i hil
      have hSeen : ∀ y ∈ (es.filter (fun e => e.1 == tupleKeyHash (intKind prog w) k)).toList.map (·.2), ∃ b j, y = Value.ref b ∧ IsTupleKey (intKind prog w) s.heap j b := by
        intro y hy
        obtain ⟨e, he, rfl⟩ := List.mem_map.mp hy
        have he' : e ∈ es := by
          have := Array.mem_toList_iff.mp he
          exact (Array.mem_filter.mp this).1
        obtain ⟨i, hi, ei⟩ := Array.mem_iff_getElem.mp he'
        obtain ⟨k', y, ey, hy'⟩ := en.ent i hi
        rw [Array.getElem?_eq_getElem hi, ei] at ey
        simp only [Option.some.injEq] at ey
        subst ey
        exact ⟨y, k', rfl, hy'⟩
      have goal2 : wpAny (model prog w) A (do
          let some (_, y) := es[i]? | unsupported "internal:set-entry"
          let equal ← holding [y] (eqBool y (.ref x))
          let (es', _, t') ← setState a
          if true && equal then return SetFound.there none
          let some same := t'.sameMemory t.moves t.mask | unsupported "set.changed-during-lookup:is-the-new-block-at-the-old-address"
          let still ← match (if same then t'.slot (sl t.mask (tupleKeyHash (intKind prog w) k) n) else .empty) with
            | .live i' => match es'[i']? with
              | some (_, y') => do pure (if ← isSame y' y then some i' else none)
              | none => pure none
            | _ => pure none
          match still with
          | none => rule "set.search.anew"; setSearchFrom a (.ref x) (tupleKeyHash (intKind prog w) k) true fuel none
          | some i' => if equal then return SetFound.there (some i') else setSearchFrom a (.ref x) (tupleKeyHash (intKind prog w) k) true fuel (some (pAt t.mask (tupleKeyHash (intKind prog w) k) (n + 1)))) Q E s := by
        rw [ey]
        dsimp only
        refine wpAny_bind (wpAny_holding (wpAny_eqBool_tuple hu hy hx ?_))
        refine wpAny_bind (wpAny_setState_of ho hd hf ?_)
        dsimp only
        by_cases hkk : k' = k
        · subst hkk
          rw [decide_eq_true rfl]
          simp only [Bool.true_and, if_true]
          exact wpAny_pure (hT ⟨i, y, ey, hy⟩)
        · rw [decide_eq_false hkk]
          simp only [Bool.and_false, Bool.false_eq_true, if_false]
          have hsm : t.sameMemory t.moves t.mask = some true := by unfold SetTable.sameMemory; simp
          rw [hsm]
          dsimp only
          rw [if_pos rfl, ← ei, slot_live b.ris hi]
          dsimp only
          rw [ey]
          dsimp only
          refine wpAny_bind ?_
          refine wpAny_isSame_ref_self ?_
          simp only [if_true]
          refine search_tup ho hd b hs hu en hx hT hF fuel (n + 1) _ ⟨N, ?_, by omega, h3⟩ ?_ rfl
          · have : n ≠ N := fun e => h3 (by rw [← e]; exact ⟨i, hi, ei⟩)
            have : ¬ N < n := fun c => by
              obtain ⟨i', hi', ei', _⟩ := hp' N c
              exact h3 ⟨i', hi', ei'⟩
            omega
          · intro j hj
            rcases Nat.lt_or_ge j n with c | c
            · exact hp' j c
            · have : j = n := by omega
              subst this
              refine ⟨i, hi, ei, fun g c e hk => hkk ?_⟩
              rw [ey] at e
              simp only [Option.some.injEq, Prod.mk.injEq, Value.ref.injEq] at e
              obtain ⟨_, rfl⟩ := e
              exact hy.inj hk
      cases hl : t.led with
      | true => simpa only [Bool.not_true, Bool.false_eq_true, if_false] using goal2
      | false =>
        simp only [Bool.not_false, if_true]
        refine wpAny_bind (seen_tup hx _ hSeen ?_)
        simp only [Bool.false_eq_true, if_false]
        exact goal2
/-- a set at S whose table keeps es -/
def SetT (h : Heap) (S : Addr) (led : Bool) (es : Array (Int × Value)) : Prop :=
  ∃ ep t, h.get? S = some { cls := .type "set", dict := none, data := .set es ep t } ∧ Tb t es ∧ t.led = led ∧ t.plain = true ∧ es.size * 5 < t.mask * 3
theorem SetOf_get {h : Heap} {a : Addr} {es : Array (Int × Value)} {ep : Nat} {t : SetTable} (ho : h.get? a = some { cls := .type "set", dict := none, data := .set es ep t }) (es' : Array (Int × Value)) (t' : SetTable) :
    (h.update a (Obj.putSet es' t')).get? a = some { cls := .type "set", dict := none, data := .set es' (ep + 1) t' } := by
  have := Heap.get?_update_self (Obj.putSet es' t') ho (by rw [putSet_of es' t' rfl]; rfl)
  rw [putSet_of es' t' rfl] at this; exact this
theorem key_eq {h h' : Heap} {S : Addr} {o o' : Obj} {es es' : Array (Int × Value)} {ep ep' : Nat} {t t' : SetTable} (q : Heap.SameBut S h h') (e : h.get? S = some o) (hd : o.data = .set es ep t)
    (e' : h'.get? S = some o') (hd' : o'.data = .set es' ep' t') (k : List Int) (x : Addr) :
    IsTupleKey (intKind prog w) h k x ↔ IsTupleKey (intKind prog w) h' k x := by
  constructor
  · rintro ⟨o, items, n, ho, hc, hdd, hi⟩
    refine ⟨o, items, n, (q.2 x fun z => ?_).trans ho, hc, hdd, hi⟩
    subst z
    rw [ho, Option.some.injEq] at e; subst e; rw [hd] at hdd; exact nomatch hdd
  · rintro ⟨o, items, n, ho, hc, hdd, hi⟩
    refine ⟨o, items, n, (q.2 x fun z => ?_).symm.trans ho, hc, hdd, hi⟩
    subst z
    rw [ho, Option.some.injEq] at e'; subst e'; rw [hd'] at hdd; exact nomatch hdd
theorem byValue_tup {k : List Int} {x : Addr} {Q : Bool → Shared → Prop} (hx : IsTupleKey (intKind prog w) s.heap k x) (h : Q true s) :
    wpAny (model prog w) A (hashByValue 8 (.ref x)) Q E s := by
  have hT := hx.typeIs
  obtain ⟨o, items, n, ho, hc, hd, hi⟩ := hx
  unfold hashByValue
  refine wpAny_bind (wpAny_specialOf hT F.slot_tuple_hash.lookup ?_)
  dsimp only
  refine wpAny_bind (wpAny_seqItems ho hd ?_)
  refine wpAny_bind ?_
  show wpAny _ _ (forIn items _ _) _ _ s
  rw [← Array.forIn_toList]
  refine wpAny_forIn_list _ (fun rest r s' => r.1 = none ∧ s' = s ∧ ∀ v ∈ rest, ∃ n t, v = Value.int n t) _ ?_ ?_ _ _ ⟨rfl, rfl, items_cv hi⟩
  · rintro v rest r s' ⟨hr, rfl, hall⟩
    obtain ⟨n, t, rfl⟩ := hall v List.mem_cons_self
    refine wpAny_bind (wpAny_of_eq (show hashByValue 7 (.int n t) = pure true from by unfold hashByValue; rfl) (wpAny_pure ?_))
    simp only [Bool.not_true, Bool.false_eq_true, if_false]
    exact ⟨trivial, trivial, fun u hu' => hall u (List.mem_cons_of_mem _ hu')⟩
  · rintro ⟨r1, r2⟩ s' ⟨hr, rfl, _⟩
    simp only at hr
    subst hr
    exact wpAny_pure h
theorem Ent.perm {h h' : Heap} {es es' : Array (Int × Value)} (en : Ent prog w h es) (hk : ∀ k x, IsTupleKey (intKind prog w) h k x ↔ IsTupleKey (intKind prog w) h' k x) (f : Nat → Nat)
    (hf : ∀ i, i < es'.size → f i < es.size ∧ es'[i]? = es[f i]?) (hj : ∀ i j, i < es'.size → j < es'.size → f i = f j → i = j) : Ent prog w h' es' := by
  refine ⟨fun i hi => ?_, fun i j k b c g g' e1 e2 k1 k2 => ?_⟩
  · obtain ⟨k, b, e, q⟩ := en.ent (f i) (hf i hi).1
    exact ⟨k, b, by rw [(hf i hi).2]; exact e, (hk _ _).mp q⟩
  · have l1 := get_lt e1
    have l2 := get_lt e2
    rw [(hf i l1).2] at e1
    rw [(hf j l2).2] at e2
    exact hj i j l1 l2 (en.dis _ _ k b c g g' e1 e2 ((hk _ _).mpr k1) ((hk _ _).mpr k2))
theorem Ent.insert {h h' : Heap} {es : Array (Int × Value)} (en : Ent prog w h es) (hk : ∀ k x, IsTupleKey (intKind prog w) h k x ↔ IsTupleKey (intKind prog w) h' k x) {p : Nat} (hp : p ≤ es.size) {k : List Int} {x : Addr}
    (hx : IsTupleKey (intKind prog w) h k x) (hno : ¬ HasK prog w h es k) : Ent prog w h' (insertAt es p (tupleKeyHash (intKind prog w) k, .ref x)) := by
  have old : ∀ (i : Nat) (k' : List Int) (b : Addr) (g : Int), es[i]? = some (g, Value.ref b) → IsTupleKey (intKind prog w) h k' b → k' ≠ k := by
    rintro i k' b g e q rfl
    exact hno ⟨i, b, by rw [e, key_hash en (get_lt e) e q], q⟩
  refine ⟨fun i hi => ?_, fun i j k' b c g g' e1 e2 k1 k2 => ?_⟩
  · rw [ins_size hp] at hi
    rw [ins_at hp]
    by_cases c1 : i < p
    · rw [if_pos c1]
      obtain ⟨k', b, e, q⟩ := en.ent i (by omega)
      exact ⟨k', b, e, (hk _ _).mp q⟩
    · rw [if_neg c1]
      by_cases c2 : i = p
      · rw [if_pos c2]
        exact ⟨k, x, rfl, (hk _ _).mp hx⟩
      · rw [if_neg c2]
        obtain ⟨k', b, e, q⟩ := en.ent (i - 1) (by omega)
        exact ⟨k', b, e, (hk _ _).mp q⟩
  · rw [ins_at hp] at e1 e2
    have k1' := (hk _ _).mpr k1
    have k2' := (hk _ _).mpr k2
    have new : ∀ (b : Addr) (g : Int), some (tupleKeyHash (intKind prog w) k, Value.ref x) = some (g, Value.ref b) → IsTupleKey (intKind prog w) h k' b → k' = k := by
      intro b g e q
      simp only [Option.some.injEq, Prod.mk.injEq, Value.ref.injEq] at e
      obtain ⟨_, rfl⟩ := e
      exact q.inj hx
    by_cases a1 : i < p
    · rw [if_pos a1] at e1
      by_cases b1 : j < p
      · rw [if_pos b1] at e2
        exact en.dis _ _ _ _ _ _ _ e1 e2 k1' k2'
      · rw [if_neg b1] at e2
        by_cases b2 : j = p
        · rw [if_pos b2] at e2
          exact absurd (new _ _ e2 k2') (old _ _ _ _ e1 k1')
        · rw [if_neg b2] at e2
          have := en.dis _ _ _ _ _ _ _ e1 e2 k1' k2'
          omega
    · rw [if_neg a1] at e1
      by_cases a2 : i = p
      · rw [if_pos a2] at e1
        by_cases b1 : j < p
        · rw [if_pos b1] at e2
          exact absurd (new _ _ e1 k1') (old _ _ _ _ e2 k2')
        · rw [if_neg b1] at e2
          by_cases b2 : j = p
          · omega
          · rw [if_neg b2] at e2
            exact absurd (new _ _ e1 k1') (old _ _ _ _ e2 k2')
      · rw [if_neg a2] at e1
        by_cases b1 : j < p
        · rw [if_pos b1] at e2
          have := en.dis _ _ _ _ _ _ _ e1 e2 k1' k2'
          omega
        · rw [if_neg b1] at e2
          by_cases b2 : j = p
          · rw [if_pos b2] at e2
            exact absurd (new _ _ e2 k2') (old _ _ _ _ e1 k1')
          · rw [if_neg b2] at e2
            have := en.dis _ _ _ _ _ _ _ e1 e2 k1' k2'
            omega
theorem ins_mem {es : Array (Int × Value)} {p : Nat} (hp : p ≤ es.size) (x v : Int × Value) : (∃ i : Nat, (insertAt es p x)[i]? = some v) ↔ (∃ i : Nat, es[i]? = some v) ∨ v = x := by
  constructor
  · rintro ⟨i, e⟩
    rw [ins_at hp] at e
    split at e
    · exact .inl ⟨_, e⟩
    · split at e
      · rw [Option.some.injEq] at e; exact .inr e.symm
      · exact .inl ⟨_, e⟩
  · rintro (⟨i, e⟩ | rfl)
    · by_cases c : i < p
      · exact ⟨i, by rw [ins_at hp, if_pos c]; exact e⟩
      · exact ⟨i + 1, by rw [ins_at hp, if_neg (by omega), if_neg (by omega)]; exact e⟩
    · exact ⟨p, by rw [ins_at hp, if_neg (by omega), if_pos rfl]⟩
theorem relay_eq (a : Addr) (wanted : Nat) : setRelay a wanted = (do
    let (es, _, t) ← setState a
    if SetTable.sizeAbove wanted > sizeLine then unsupported "set:memory"
    let (es, t) ← (do
      let some (t, order) := t.relaid (es.map (·.1)) wanted | unsupported "internal:set-table-without-room"
      let es' := order.filterMap (es[·]?)
      if es'.size != es.size then unsupported "internal:set-table-lost-an-element"
      pure (es', t) : Sem (Array (Int × Value) × SetTable))
    storeSet a es t) := rfl
theorem add_tup {S : Addr} {led : Bool} {es : Array (Int × Value)} (hS : SetT s.heap S led es) (en : Ent prog w s.heap es) {k : List Int} {x : Addr} (hx : IsTupleKey (intKind prog w) s.heap k x)
    (hu : A.units < cLine) (h64 : es.size < 64) {Q : Bool → Shared → Prop}
    (h : ∀ b h' es', Heap.SameBut S s.heap h' → SetT h' S led es' → Ent prog w h' es' →
      (HasK prog w s.heap es k ∧ es' = es ∨ ¬ HasK prog w s.heap es k ∧ es'.size = es.size + 1 ∧ ∀ v, (∃ i : Nat, es'[i]? = some v) ↔ (∃ i : Nat, es[i]? = some v) ∨ v = (tupleKeyHash (intKind prog w) k, .ref x)) → Q b { s with heap := h' }) :
    wpAny (model prog w) A (setAddHashed S (.ref x) (tupleKeyHash (intKind prog w) k)) Q E s := by
  have hS0 := hS
  obtain ⟨ep, t, ho, b, hl, hp, hr⟩ := hS
  have hs : es.size ≤ t.mask := by omega
  have hf := tb_fits b hs
  unfold setAddHashed setAddHashedIn
  refine wpAny_holding (wpAny_bind (wpAny_setState_of ho rfl hf ?_))
  dsimp only
  have hsc : byScan (.ref x) es = false := by unfold byScan; simp [Value.scannable]
  rw [hsc]
  simp only [Bool.false_eq_true, if_false]
  unfold setSearch
  obtain ⟨e, he, hn⟩ := b.free hs
  obtain ⟨n1, h1, h2, h3⟩ := meet b.mask (tupleKeyHash (intKind prog w) k) 0 he
  have ht : 10 * turns t.mask < 100000 := by
    unfold turns
    rcases b.mask with e | e | e <;> rw [e] <;> decide
  refine wpAny_bind (search_tup ho rfl b hs hu en hx (fun hk => ?_) (fun n ha hb hno => ?_) 100000 0 none ⟨n1, h1, by omega, by rw [h3]; exact hn⟩ (fun j hj => absurd hj (by omega)) rfl)
  · exact wpAny_pure (h false s.heap es (Heap.SameBut.refl _ _) hS0 en (.inl ⟨hk, rfl⟩))
  · dsimp only
    refine wpAny_bind (wpAny_setState_of ho rfl hf ?_)
    dsimp only
    have T1 := b.add (tupleKeyHash (intKind prog w) k) (.ref x) n ha (sl_le _ _ _) hb
    have hpl : below t.place (sl t.mask (tupleKeyHash (intKind prog w) k) n) ≤ es.size := by rw [← b.size]; exact (below_at b.ris _).1
    have put := put_eq t b.dum (sl t.mask (tupleKeyHash (intKind prog w) k) n)
    rw [put] at T1 ⊢
    dsimp only at T1 ⊢
    rw [if_pos hp]
    refine wpAny_bind (byValue_tup hx ?_)
    simp only [if_true]
    generalize hpp : below t.place (sl t.mask (tupleKeyHash (intKind prog w) k) n) = p at T1 hpl ⊢
    generalize htt : ({ t with place := insertAt t.place p (sl t.mask (tupleKeyHash (intKind prog w) k) n) } : SetTable) = t1 at T1 ⊢
    have tm : t1.mask = t.mask := by rw [← htt]
    have tl : t1.led = led := by rw [← htt]; exact hl
    have tp : t1.plain = true := by rw [← htt]; exact hp
    have z1 : (insertAt es p (tupleKeyHash (intKind prog w) k, Value.ref x)).size = es.size + 1 := ins_size hpl _
    have hsl : sizeLine ≥ 4096 := by rw [sizeLine_eq]; decide
    refine wpAny_bind (wpAny_storeSet_of ho rfl ?_ (by rw [z1]; omega))
    have ho1 := (SetOf_get ho (insertAt es p (tupleKeyHash (intKind prog w) k, Value.ref x)) t1)
    have sb1 := Heap.SameBut.update s.heap S (Obj.putSet (insertAt es p (tupleKeyHash (intKind prog w) k, Value.ref x)) t1)
    generalize s.heap.update S (Obj.putSet (insertAt es p (tupleKeyHash (intKind prog w) k, Value.ref x)) t1) = h1 at ho1 sb1 ⊢
    have s1 : t1.place.size = es.size + 1 := by rw [T1.size, z1]
    have fl : t1.fill = es.size + 1 := by unfold SetTable.fill; rw [T1.dum, s1]; rfl
    have hk1 : ∀ k x, IsTupleKey (intKind prog w) s.heap k x ↔ IsTupleKey (intKind prog w) h1 k x := fun k x => key_eq sb1 ho rfl ho1 rfl k x
    have en1 := en.insert hk1 hpl hx hno
    by_cases full : t1.tooFull = true
    · rw [full]
      simp only [Bool.not_false, Bool.and_self, if_true]
      have fe : (es.size + 1) * 5 ≥ t.mask * 3 := by
        unfold SetTable.tooFull at full
        rw [fl, tm] at full
        simpa using full
      have hm : (t1.mask = 7 ∧ (insertAt es p (tupleKeyHash (intKind prog w) k, Value.ref x)).size = 5) ∨ (t1.mask = 31 ∧ (insertAt es p (tupleKeyHash (intKind prog w) k, Value.ref x)).size = 19) := by
        rw [z1, tm]
        rcases b.mask with e | e | e <;> omega
      obtain ⟨pl, od, r1, r2, r3, r4, r5, r6, r7, r8⟩ := Tb.again hm
      rw [← z1, relay_eq]
      have hf1 : t1.fits (insertAt es p (tupleKeyHash (intKind prog w) k, Value.ref x)).size = true := tb_fits T1 (by rcases hm with ⟨e1, e2⟩ | ⟨e1, e2⟩ <;> omega)
      refine wpAny_bind ?_
      refine wpAny_bind (wpAny_setState_of (s := { s with heap := h1 }) ho1 rfl hf1 ?_)
      dsimp only
      rw [if_neg (by omega)]
      rw [r1]
      dsimp only
      rw [show ((od.filterMap ((insertAt es p (tupleKeyHash (intKind prog w) k, Value.ref x))[·]?)).size != (insertAt es p (tupleKeyHash (intKind prog w) k, Value.ref x)).size) = false from by rw [r3]; simp]
      simp only [Bool.false_eq_true, if_false]
      refine wpAny_bind (wpAny_pure ?_)
      refine wpAny_storeSet_of (s := { s with heap := h1 }) ho1 rfl ?_ (by rw [r3, z1]; omega)
      have ho2 := (SetOf_get ho1 (od.filterMap ((insertAt es p (tupleKeyHash (intKind prog w) k, Value.ref x))[·]?)) { mask := sizeAbove (grown (insertAt es p (tupleKeyHash (intKind prog w) k, Value.ref x)).size) - 1, place := pl, dummies := #[], finger := t1.finger, led := t1.led, moves := t1.movedTo (sizeAbove (grown (insertAt es p (tupleKeyHash (intKind prog w) k, Value.ref x)).size) - 1), plain := t1.plain })
      have sb2 := Heap.SameBut.update h1 S (Obj.putSet (od.filterMap ((insertAt es p (tupleKeyHash (intKind prog w) k, Value.ref x))[·]?)) { mask := sizeAbove (grown (insertAt es p (tupleKeyHash (intKind prog w) k, Value.ref x)).size) - 1, place := pl, dummies := #[], finger := t1.finger, led := t1.led, moves := t1.movedTo (sizeAbove (grown (insertAt es p (tupleKeyHash (intKind prog w) k, Value.ref x)).size) - 1), plain := t1.plain })
      dsimp only at ho2 sb2 ⊢
      generalize h1.update S _ = h2 at ho2 sb2 ⊢
      have hk2 : ∀ k x, IsTupleKey (intKind prog w) h1 k x ↔ IsTupleKey (intKind prog w) h2 k x := fun k x => key_eq sb2 ho1 rfl ho2 rfl k x
      refine wpAny_pure (h true h2 _ (sb1.trans sb2) ⟨_, _, ho2, r2, tl, tp, by rw [r3]; exact r7⟩ (en1.perm hk2 (fun i => od.getD i 0) (fun i hi => ?_) fun i j hi hj e => r5 i j (by rw [← r3]; exact hi) (by rw [← r3]; exact hj) e) (.inr ⟨hno, by rw [r3, z1], fun v => ?_⟩))
      · rw [r3] at hi
        obtain ⟨q, q1, q2, q3⟩ := r4 i hi
        rw [← q3]
        exact ⟨q1, q2⟩
      · rw [← ins_mem hpl]
        constructor
        · rintro ⟨i, e⟩
          obtain ⟨q, q1, q2, q3⟩ := r4 i (by rw [← r3]; exact get_lt e)
          exact ⟨q, by rw [← q2]; exact e⟩
        · rintro ⟨i, e⟩
          obtain ⟨i', hi', e'⟩ := r6 i (get_lt e)
          obtain ⟨q, q1, q2, q3⟩ := r4 i' hi'
          exact ⟨i', by rw [q2, q3, e']; exact e⟩
    · rw [show t1.tooFull = false from by simpa using full]
      simp only [Bool.not_false, Bool.and_false, Bool.false_eq_true, if_false]
      have fe : (es.size + 1) * 5 < t1.mask * 3 := by
        unfold SetTable.tooFull at full
        rw [fl] at full
        simpa using full
      exact wpAny_pure (h true h1 _ sb1 ⟨_, _, ho1, T1, tl, tp, by rw [z1]; exact fe⟩ en1 (.inr ⟨hno, z1, fun v => ins_mem hpl _ _⟩))
end
end L2
/-! ### set(xs) of a list of tuples of ints -/
namespace L2
open PySem PySem.SetTable PySem.Spec PyProof.Rows
section
variable {prog : Program} {w : World} {A : Around} {E : Value → Shared → Prop} {s : Shared}
theorem Ent.mv {h h' : Heap} {es : Array (Int × Value)} (en : Ent prog w h es) (hk : ∀ (i : Nat) (k : List Int) (g : Int) (x : Addr), es[i]? = some (g, Value.ref x) → IsTupleKey (intKind prog w) h k x → IsTupleKey (intKind prog w) h' k x) : Ent prog w h' es := by
  refine ⟨fun i hi => ?_, fun i j k b c g g' e1 e2 k1 k2 => ?_⟩
  · obtain ⟨k, b, e, q⟩ := en.ent i hi
    exact ⟨k, b, e, hk i k _ b e q⟩
  · obtain ⟨k', b', e1', q1⟩ := en.ent i (get_lt e1)
    obtain ⟨k'', b'', e2', q2⟩ := en.ent j (get_lt e2)
    rw [e1] at e1'
    rw [e2] at e2'
    simp only [Option.some.injEq, Prod.mk.injEq, Value.ref.injEq] at e1' e2'
    obtain ⟨rfl, rfl⟩ := e1'
    obtain ⟨rfl, rfl⟩ := e2'
    have := k1.inj (hk i k' _ b e1 q1)
    subst this
    have := k2.inj (hk j k'' _ c e2 q2)
    subst this
    exact en.dis i j _ _ _ _ _ e1 e2 q1 q2
/-- es keeps just the first i things -/
structure Made (prog : Program) (w : World) (kk : Nat → List Int) (ad : Nat → Addr) (i : Nat) (es : Array (Int × Value)) : Prop where
  size : es.size ≤ i
  from_ : ∀ (p : Nat) (v : Int × Value), es[p]? = some v → ∃ j, j < i ∧ v = (tupleKeyHash (intKind prog w) (kk j), Value.ref (ad j))
  all : ∀ j, j < i → ∃ (p j' : Nat), j' < i ∧ kk j' = kk j ∧ es[p]? = some (tupleKeyHash (intKind prog w) (kk j'), Value.ref (ad j'))
theorem Made.step {kk : Nat → List Int} {ad : Nat → Addr} {i : Nat} {es es' : Array (Int × Value)} {h : Heap} (m : Made prog w kk ad i es) (en : Ent prog w h es) (hkk : ∀ j, j ≤ i → IsTupleKey (intKind prog w) h (kk j) (ad j))
    (c : HasK prog w h es (kk i) ∧ es' = es ∨ ¬ HasK prog w h es (kk i) ∧ es'.size = es.size + 1 ∧ ∀ v, (∃ p : Nat, es'[p]? = some v) ↔ (∃ p : Nat, es[p]? = some v) ∨ v = (tupleKeyHash (intKind prog w) (kk i), .ref (ad i))) :
    Made prog w kk ad (i + 1) es' := by
  rcases c with ⟨⟨p, b, e, q⟩, rfl⟩ | ⟨_, z, mem⟩
  · refine ⟨Nat.le_succ_of_le m.size, fun p v e => ?_, fun j hj => ?_⟩
    · obtain ⟨j, hj, ev⟩ := m.from_ p v e
      exact ⟨j, by omega, ev⟩
    · by_cases c : j < i
      · obtain ⟨p, j', hj', ek, ev⟩ := m.all j c
        exact ⟨p, j', by omega, ek, ev⟩
      · have : j = i := by omega
        subst this
        obtain ⟨j', hj', ev⟩ := m.from_ p _ e
        simp only [Prod.mk.injEq, Value.ref.injEq] at ev
        obtain ⟨_, rfl⟩ := ev
        have := q.inj (hkk j' (by omega))
        exact ⟨p, j', by omega, this.symm, by rw [e, this]⟩
  · refine ⟨by rw [z]; have := m.size; omega, fun p v e => ?_, fun j hj => ?_⟩
    · rcases (mem v).mp ⟨p, e⟩ with ⟨p', e'⟩ | e'
      · obtain ⟨j, hj, ev⟩ := m.from_ p' v e'
        exact ⟨j, by omega, ev⟩
      · exact ⟨i, by omega, e'⟩
    · by_cases c : j < i
      · obtain ⟨p, j', hj', ek, ev⟩ := m.all j c
        obtain ⟨p', e'⟩ := (mem _).mpr (.inl ⟨p, ev⟩)
        exact ⟨p', j', by omega, ek, e'⟩
      · have : j = i := by omega
        subst this
        obtain ⟨p', e'⟩ := (mem _).mpr (.inr rfl)
        exact ⟨p', j, by omega, rfl, e'⟩
theorem SetT.mv {h h' : Heap} {S : Addr} {led : Bool} {es : Array (Int × Value)} (a : SetT h S led es) (e : ∀ o, h.get? S = some o → h'.get? S = some o) : SetT h' S led es := by
  obtain ⟨ep, t, ho, r⟩ := a
  exact ⟨ep, t, e _ ho, r⟩
theorem key_mv {h h' : Heap} {k : List Int} {x : Addr} (q : IsTupleKey (intKind prog w) h k x) (e : ∀ o, h.get? x = some o → h'.get? x = some o) : IsTupleKey (intKind prog w) h' k x := by
  obtain ⟨o, items, n, ho, r⟩ := q
  exact ⟨o, items, n, e _ ho, r⟩
theorem new_set (a : Value) {Q₁ : Value → Shared → Prop}
    (h : Q₁ (.ref s.heap.objs.size) { s with heap := s.heap.push { cls := .type "set", dict := none, data := .set #[] 0 (.fresh 0 0 (!w.params.followText "set-order")) } }) :
    codeAny (model prog w) A (.call (.builtin "set.__new__") ⟨[.type "set", a], []⟩) (wants Q₁ E) s := by
  refine codeAny_of_tree ?_
  show wpAny _ A.in1 (do checkBuiltinCall "set.__new__" ⟨[.type "set", a], []⟩; again (.builtin "set.__new__" ⟨[.type "set", a], []⟩)) _ _ s
  refine wpAny_bind (wpAny_of_eq (F.newCall_set_1 a) (wpAny_pure ⟨plainId_quiet F.plain_set_new _, codeAny_builtin F.entry_set_new ?_⟩))
  rw [Around.under_plainId F.plain_set_new _]
  unfold Builtin.«set.__new__» Builtin.Frozenset.newClass
  have hsub := sub_set_self
  obtain ⟨hp, g, d, tk, os⟩ := s
  dsimp only
  wp_walk
  refine wpAny_askSetting (wpAny_pure ?_)
  dsimp only
  simp only [newObj]
  refine wpAny_bind (wpAny_alloc (wpAny_pure ?_))
  exact wpAny_pure h
theorem fresh_tb (led : Bool) : Tb (.fresh 0 0 led) #[] :=
  ⟨.inl rfl, rfl, rfl, fun i j _ h => absurd h (by show ¬ j < 0; omega), fun i h => absurd h (by show ¬ i < 0; omega), fun i h => absurd h (by show ¬ i < 0; omega)⟩
end
end L2
/-! ### walking over a set of tuples -/
namespace L2
open PySem PySem.SetTable PySem.Spec PyProof.Rows
theorem entry_set_iter' : entryFor table "set.__iter__" = some Builtin.«frozenset.__iter__» :=
  entryFor_alias (id' := "frozenset.__iter__") (by kernel_rfl) rfl (by decide +kernel) (by kernel_rfl)
theorem slot_seti_iter : Slot "set_iterator" "__iter__" "set_iterator.__iter__" :=
  .of (owner := "set_iterator") (n := "__iter__") (by rw [typeLookup_type, builtinLookup_eq_fast]; kernel_rfl) (by decide +kernel) (by decide +kernel) (by decide +kernel)
    (by first | exact .inl (by decide +kernel) | exact .inr (by decide +kernel)) (by rw [isSubtype_type]; kernel_rfl)
theorem entry_seti_iter : entryFor table "set_iterator.__iter__" = some Builtin.«dict_keyiterator.__iter__» :=
  entryFor_alias (id' := "dict_keyiterator.__iter__") (by kernel_rfl) rfl (by decide +kernel) (by kernel_rfl)
theorem args_seti_iter (a : Value) : argsOk "set_iterator.__iter__" ⟨[a], []⟩ := by unfold argsOk; kernel_rfl
theorem slot_seti_next : Slot "set_iterator" "__next__" "set_iterator.__next__" :=
  .of (owner := "set_iterator") (n := "__next__") (by rw [typeLookup_type, builtinLookup_eq_fast]; kernel_rfl) (by decide +kernel) (by decide +kernel) (by decide +kernel)
    (by first | exact .inl (by decide +kernel) | exact .inr (by decide +kernel)) (by rw [isSubtype_type]; kernel_rfl)
theorem entry_seti_next : entryFor table "set_iterator.__next__" = some Builtin.«set_iterator.__next__» := entryFor_of_tree (by kernel_rfl)
theorem args_seti_next (a : Value) : argsOk "set_iterator.__next__" ⟨[a], []⟩ := by unfold argsOk; kernel_rfl
/-! the order of a walk -/
theorem er_perm {α : Type} : ∀ (l : List α) (i : Nat) (h : i < l.length), ([l[i]] ++ l.eraseIdx i).Perm l
  | [], i, h => absurd h (by simp)
  | a :: l, 0, h => by simp
  | a :: l, i + 1, h => by
    have hi : i < l.length := by simpa using h
    have := er_perm l i hi
    simp only [List.getElem_cons_succ, List.eraseIdx_cons_succ, List.singleton_append] at this ⊢
    exact (List.Perm.swap a l[i] _).trans (this.cons a)
theorem pick_go {α : Type} (next : Nat → Nat) : ∀ (f k : Nat) (left : List α) (out : Array α), left.length = f → (pickOrder.go next f k left out).toList.Perm (out.toList ++ left)
  | 0, k, left, out, e => by
    have : left = [] := List.length_eq_zero_iff.mp e
    subst this
    unfold pickOrder.go
    simp
  | f + 1, k, left, out, e => by
    have hp : next k % left.length < left.length := Nat.mod_lt _ (by omega)
    unfold pickOrder.go
    rw [List.getElem?_eq_getElem hp]
    dsimp only
    refine (pick_go next f (k + 1) _ _ (by rw [List.length_eraseIdx_of_lt hp]; omega)).trans ?_
    rw [Array.toList_push, List.append_assoc]
    refine List.Perm.append_left _ ?_
    exact er_perm left _ hp
theorem pick_perm {α : Type} (next : Nat → Nat) (xs : Array α) : (pickOrder next xs).toList.Perm xs.toList := by
  unfold pickOrder
  simpa using pick_go next xs.size 0 xs.toList #[] (by simp)
/-- the things in the order of the walk -/
def wkOf (w : World) (a : Addr) (ep : Nat) (es : Array (Int × Value)) : Array (Int × Value) := if w.params.followText "set-order" then pickOrder (w.params.setOrder a ep) es else es
theorem wk_perm (w : World) (a : Addr) (ep : Nat) (es : Array (Int × Value)) : (wkOf w a ep es).toList.Perm es.toList := by
  unfold wkOf
  split
  · exact pick_perm _ _
  · exact List.Perm.refl _
theorem wk_size (w : World) (a : Addr) (ep : Nat) (es : Array (Int × Value)) : (wkOf w a ep es).size = es.size := by
  have := (wk_perm w a ep es).length_eq
  simpa using this
/-- the slot that the iterator keeps before the i-th thing -/
def slAt (w : World) (t : SetTable) (i : Nat) : Nat := if w.params.followText "set-order" then 0 else if i = 0 then 0 else t.place.getD (i - 1) 0 + 1
theorem below_all {xs : Array Nat} (r : Ris xs) {j p : Nat} (hp : p ≤ xs.size) (h1 : ∀ i, i < p → xs.getD i 0 < j) (h2 : ∀ i, p ≤ i → i < xs.size → j ≤ xs.getD i 0) : below xs j = p := by
  obtain ⟨a1, a2, a3⟩ := below_at r j
  rcases Nat.lt_trichotomy (below xs j) p with c | c | c
  · have := h1 _ c
    have := a3 _ (Nat.le_refl _) (by omega)
    omega
  · exact c
  · have := a2 _ c
    have := h2 p (Nat.le_refl _) (by omega)
    omega
theorem below_sl {t : SetTable} (r : Ris t.place) {i : Nat} (hi : i ≤ t.place.size) : below t.place (if i = 0 then 0 else t.place.getD (i - 1) 0 + 1) = i := by
  by_cases z : i = 0
  · subst z
    exact below_all r (Nat.zero_le _) (fun i h => absurd h (by omega)) fun i _ _ => Nat.zero_le _
  · rw [if_neg z]
    refine below_all r hi (fun j hj => ?_) fun j h1 h2 => ?_
    · rcases Nat.lt_or_ge j (i - 1) with c | c
      · have := r j (i - 1) c (by omega); omega
      · have : j = i - 1 := by omega
        subst this; omega
    · have := r (i - 1) j (by omega) h2; omega
section
variable {prog : Program} {w : World} {A : Around} {E : Value → Shared → Prop} {s : Shared}
theorem next_eq (a : Addr) (slot given epochThen : Nat) : setNext a slot given epochThen = (do
    let (es, epoch, t) ← setState a
    if ← setsByText then
      if epoch != epochThen then unsupported "set_iterator.__next__:elements-changed"
      return ((← setWalk a)[given]?).map fun e => (e.2, slot)
    if !t.plain && es.size > 1 then unsupported "set_iterator.__next__:the-table-is-plain-no-more"
    (do if !t.led && !es.isEmpty then unsupported "set:maker-not-led" : Sem Unit)
    let i := SetTable.below t.place slot
    return match es[i]?, t.place[i]? with
      | some (_, x), some j => some (x, j + 1)
      | _, _ => none) := rfl
theorem set_next {S : Addr} {es : Array (Int × Value)} {ep : Nat} {t : SetTable} {i : Nat} {Q : Option (Value × Nat) → Shared → Prop}
    (ho : s.heap.get? S = some { cls := .type "set", dict := none, data := .set es ep t }) (b : Tb t es) (hs : es.size ≤ t.mask) (hl : t.led = !w.params.followText "set-order") (hp : t.plain = true) (hi : i ≤ es.size)
    (h : Q (((wkOf w S ep es)[i]?).map fun e => (e.2, slAt w t (i + 1))) s) : wpAny (model prog w) A (setNext S (slAt w t i) i ep) Q E s := by
  have hf := tb_fits b hs
  rw [next_eq]
  refine wpAny_bind (wpAny_setState_of ho rfl hf ?_)
  dsimp only
  unfold setsByText
  refine wpAny_bind (wpAny_bind (wpAny_askSetting (wpAny_pure ?_)))
  show wpAny _ _ (if (w.params.followText "set-order") = true then _ else _) _ _ s
  unfold wkOf slAt at h
  unfold slAt
  cases ht : w.params.followText "set-order" with
  | true =>
    rw [ht] at h
    simp only [if_true] at h ⊢
    simp only [bne_self_eq_false, Bool.false_eq_true, if_false]
    unfold setWalk
    refine wpAny_bind (wpAny_bind (wpAny_setState_of ho rfl hf ?_))
    dsimp only
    unfold setsByText
    refine wpAny_bind (wpAny_bind (wpAny_askSetting (wpAny_pure ?_)))
    show wpAny _ _ (if (w.params.followText "set-order") = true then _ else _) _ _ s
    rw [ht]
    simp only [if_true]
    refine wpAny_bind (wpAny_askSetting (wpAny_pure ?_))
    exact wpAny_pure h
  | false =>
    rw [ht] at h hl
    simp only [Bool.false_eq_true, if_false] at h ⊢
    rw [hp, hl]
    simp only [Bool.not_true, Bool.not_false, Bool.false_and, Bool.false_eq_true, if_false]
    refine wpAny_bind (wpAny_pure ?_)
    rw [below_sl b.ris (by rw [b.size]; exact hi)]
    refine wpAny_pure ?_
    rcases Nat.lt_or_ge i es.size with c | c
    · have c' : i < t.place.size := by rw [b.size]; exact c
      have e2 : t.place.getD (i + 1 - 1) 0 = t.place[i] := by simp [Array.getD, c']
      rw [Array.getElem?_eq_getElem c] at h ⊢
      rw [Array.getElem?_eq_getElem c']
      rw [if_neg (by omega), e2] at h
      exact h
    · rw [Array.getElem?_eq_none c] at h ⊢
      exact h
/-- an iterator over the set S -/
def SIter (h : Heap) (it S : Addr) (slot i n ep : Nat) : Prop := ∃ o, h.get? it = some o ∧ o.cls = .type "set_iterator" ∧ o.data = .fields #[.int slot 0, .int i 0, .ref S, .int n 0, .int ep 0]
theorem SIter.typeIs {it S : Addr} {slot i n ep : Nat} (x : SIter s.heap it S slot i n ep) : s.TypeIs (.ref it) "set_iterator" := let ⟨o, ho, hc, _⟩ := x; ⟨o, ho, hc⟩
theorem SIter.mv {h h' : Heap} {it S : Addr} {slot i n ep : Nat} (x : SIter h it S slot i n ep) (e : ∀ o, h.get? it = some o → h'.get? it = some o) : SIter h' it S slot i n ep := let ⟨o, ho, r⟩ := x; ⟨o, e _ ho, r⟩
theorem iter_set {S : Addr} {es : Array (Int × Value)} {ep : Nat} {t : SetTable} {Q : Value → Shared → Prop}
    (ho : s.heap.get? S = some { cls := .type "set", dict := none, data := .set es ep t }) (b : Tb t es) (hs : es.size ≤ t.mask) (hp : t.plain = true)
    (h : Q (.ref s.heap.objs.size) { s with heap := s.heap.push { cls := .type "set_iterator", data := .fields #[.int (slAt w t 0 : Nat) 0, .int (0 : Nat) 0, .ref S, .int es.size 0, .int ep 0] } }) :
    wpAny (model prog w) A (pyIter (.ref S)) Q E s := by
  have hT : s.TypeIs (.ref S) "set" := ⟨_, ho, rfl⟩
  have hf := tb_fits b hs
  refine wpAny_pyIter_slot hT F.slot_set_iter (wpAny_call_entry F.slot_set_iter hT entry_set_iter' ?_ (F.args_set_iter_1 _))
  unfold Builtin.«frozenset.__iter__» Builtin.Frozenset.slot0 slotArgs
  simp only [List.isEmpty_nil, Bool.not_true, Bool.false_eq_true, ↓reduceIte, bind_assoc, List.length_nil, bne_self_eq_false]
  unfold Builtin.Frozenset.addrOf Builtin.Frozenset.sizeOf setEntries
  refine wpAny_bind (wpAny_pure ?_)
  try dsimp only
  refine wpAny_bind (wpAny_pure ?_)
  refine wpAny_bind (wpAny_bind (wpAny_bind (wpAny_setState_of ho rfl hf (wpAny_pure (wpAny_pure ?_)))))
  have hdr : ∀ {Q' : Bool → Shared → Prop}, Q' false s → wpAny (model prog w) A.in1 (setDrawn S) Q' E s := by
    intro Q' q
    unfold setDrawn
    refine wpAny_bind (wpAny_setState_of ho rfl hf ?_)
    dsimp only
    unfold setsByText
    refine wpAny_bind (wpAny_bind (wpAny_askSetting (wpAny_pure ?_)))
    refine wpAny_pure ?_
    have : (!t.plain && decide (es.size > 1)) = false := by rw [hp]; rfl
    show Q' (!w.params.followText "set-order" && (!t.plain && decide (es.size > 1))) s
    rw [this, Bool.and_false]
    exact q
  refine wpAny_bind (hdr ?_)
  simp only [Bool.false_eq_true, if_false]
  refine wpAny_bind (wpAny_pure ?_)
  refine wpAny_bind (wpAny_setEpoch_of ho rfl hf ?_)
  unfold newFields
  refine wpAny_bind (wpAny_newObj_type (wpAny_pure ⟨_, rfl, "set_iterator", _, ⟨_, Heap.get?_push_size _ rfl, rfl⟩, slot_seti_next.lookup, ?_⟩))
  have e0 : slAt w t 0 = 0 := by unfold slAt; split <;> rfl
  rw [e0] at h
  simpa [rawInt] using h
theorem fields_set {h : Heap} {a : Addr} {o : Obj} {vs : Array Value} (ho : h.get? a = some o) (hd : o.data = .fields vs) (f : Array Value → Array Value) :
    ∃ o', (h.update a (Obj.mapFields f)).get? a = some o' ∧ o'.cls = o.cls ∧ o'.data = .fields (f vs) :=
  ⟨_, Heap.get?_update_self _ ho (Obj.isFreed_of_fields (Obj.data_mapFields hd _)), Obj.cls_mapFields .., Obj.data_mapFields hd _⟩
theorem seti_item {it S : Addr} {es : Array (Int × Value)} {ep : Nat} {t : SetTable} {i : Nat} {e : Int × Value} {Q : Option Value → Shared → Prop} (hit : SIter s.heap it S (slAt w t i) i es.size ep)
    (ho : s.heap.get? S = some { cls := .type "set", dict := none, data := .set es ep t }) (b : Tb t es) (hs : es.size ≤ t.mask) (hl : t.led = !w.params.followText "set-order") (hp : t.plain = true) (hi : i < es.size)
    (he : (wkOf w S ep es)[i]? = some e) (hQ : ∀ h', SIter h' it S (slAt w t (i + 1)) (i + 1) es.size ep → Heap.SameBut it s.heap h' → Q (some e.2) { s with heap := h' }) :
    wpAny (model prog w) A (pyNext (.ref it)) Q E s := by
  obtain ⟨o, hoi, hc, hd⟩ := id hit
  have hf := tb_fits b hs
  unfold pyNext
  refine wpAny_bind (wpAny_attempt (wpAny_callSpecial?_slot (name := Str.ofString "__next__") hit.typeIs slot_seti_next
    (wpAny_call_entry slot_seti_next hit.typeIs entry_seti_next ?_ (args_seti_next _))))
  show wpAny _ _ (fieldsOf (.ref it) >>= _) _ _ s
  refine wpAny_bind (wpAny_fieldsOf hoi hd ?_)
  dsimp only
  unfold setEntries
  refine wpAny_bind (wpAny_bind (wpAny_setState_of ho rfl hf (wpAny_pure ?_)))
  dsimp only
  rw [if_neg (by simp)]
  simp only [Int.toNat_natCast]
  refine wpAny_bind (set_next ho b hs hl hp (Nat.le_of_lt hi) ?_)
  rw [he]
  dsimp only [Option.map_some]
  refine wpAny_bind (wpAny_setField hoi hd (by simp) ?_)
  obtain ⟨o1, ho1, hc1, hd1⟩ := fields_set hoi hd (·.setIfInBounds 0 (rawInt (slAt w t (i + 1) : Nat)))
  have sb1 := Heap.SameBut.update s.heap it (Obj.mapFields (·.setIfInBounds 0 (rawInt (slAt w t (i + 1) : Nat))))
  generalize s.heap.update it (Obj.mapFields (·.setIfInBounds 0 (rawInt (slAt w t (i + 1) : Nat)))) = h1 at ho1 sb1 ⊢
  refine wpAny_bind (wpAny_setField (s := { s with heap := h1 }) ho1 hd1 (by simp) ?_)
  obtain ⟨o2, ho2, hc2, hd2⟩ := fields_set ho1 hd1 (·.setIfInBounds 1 (rawInt ((i : Int) + 1)))
  have sb2 := Heap.SameBut.update h1 it (Obj.mapFields (·.setIfInBounds 1 (rawInt ((i : Int) + 1))))
  dsimp only
  generalize h1.update it (Obj.mapFields (·.setIfInBounds 1 (rawInt ((i : Int) + 1)))) = h2 at ho2 sb2 ⊢
  refine wpAny_pure ⟨_, rfl, wpAny_pure (hQ _ ⟨o2, ho2, by rw [hc2, hc1, hc], ?_⟩ (sb1.trans sb2))⟩
  rw [hd2]
  simp [rawInt]
theorem seti_end {it S : Addr} {es : Array (Int × Value)} {ep : Nat} {t : SetTable} {Q : Option Value → Shared → Prop} (hh : A.handled = none) (hit : SIter s.heap it S (slAt w t es.size) es.size es.size ep)
    (ho : s.heap.get? S = some { cls := .type "set", dict := none, data := .set es ep t }) (b : Tb t es) (hs : es.size ≤ t.mask) (hl : t.led = !w.params.followText "set-order") (hp : t.plain = true)
    (hQ : ∀ h', Heap.ExtBut it s.heap h' → Q none { s with heap := h' }) :
    wpAny (model prog w) A (pyNext (.ref it)) Q E s := by
  obtain ⟨o, hoi, hc, hd⟩ := id hit
  have hf := tb_fits b hs
  unfold pyNext
  refine wpAny_bind (wpAny_attempt (wpAny_callSpecial?_slot (name := Str.ofString "__next__") hit.typeIs slot_seti_next
    (wpAny_call_entry slot_seti_next hit.typeIs entry_seti_next ?_ (args_seti_next _))))
  show wpAny _ _ (fieldsOf (.ref it) >>= _) _ _ s
  refine wpAny_bind (wpAny_fieldsOf hoi hd ?_)
  dsimp only
  unfold setEntries
  refine wpAny_bind (wpAny_bind (wpAny_setState_of ho rfl hf (wpAny_pure ?_)))
  dsimp only
  rw [if_neg (by simp)]
  simp only [Int.toNat_natCast]
  refine wpAny_bind (set_next ho b hs hl hp (Nat.le_refl _) ?_)
  rw [Array.getElem?_eq_none (by rw [wk_size]; exact Nat.le_refl _)]
  dsimp only [Option.map_none]
  refine wpAny_bind (wpAny_setField hoi hd (by simp) ?_)
  show wpAny _ _ (newExc (.type "StopIteration") [] >>= _) _ _ _
  refine wpAny_bind ?_
  simp only [newExc, newTuple]
  refine wpAny_bind (wpAny_newObj_type ?_ (by size_fits))
  refine wpAny_bind (m := firstArgMember _ _) (wpAny_of_eq (a := Value.none) (by first | rfl | (simp only [firstArgMember]; rfl)) ?_)
  refine wpAny_newObj_type ?_ (by size_fits)
  simp only [raiseNew]
  refine wpAny_bind (wpAny_handled ?_)
  rw [show A.in1.handled = none from hh]
  refine wpAny_bind (wpAny_pure (wpAny_throw ?_))
  refine wpAny_bind (wpAny_isInstance (T := "StopIteration") (b := true) ⟨_, Heap.get?_push_size _ rfl, rfl⟩ isSubtype_stop ?_)
  exact wpAny_pure (hQ _ (((Heap.SameBut.update ..).extBut.push _).push _))
theorem walk_set (hh : A.handled = none) (I S : Addr) (hne : S ≠ I) {es : Array (Int × Value)} {ep : Nat} {t : SetTable} (b : Tb t es) (hs : es.size ≤ t.mask) (hl : t.led = !w.params.followText "set-order") (hp : t.plain = true) :
    Walks prog w A I [I, S] [I] es.size (fun i v => ∃ e, (wkOf w S ep es)[i]? = some e ∧ v = e.2) (fun i h => SIter h I S (slAt w t i) i es.size ep ∧ h.get? S = some { cls := .type "set", dict := none, data := .set es ep t }) where
  sub := fun b hb => by simp at hb; simp [hb]
  frame := fun _ _ _ st hk => ⟨st.1.mv fun o e => hk I (by simp) o e, hk S (by simp) _ st.2⟩
  item := fun i s Q E hi st hQ => by
    have hi' : i < (wkOf w S ep es).size := by rw [wk_size]; exact hi
    refine seti_item st.1 st.2 b hs hl hp hi (Array.getElem?_eq_getElem hi') fun h' hit' hs' => ?_
    exact hQ _ h' s.toks ⟨_, Array.getElem?_eq_getElem hi', rfl⟩ ⟨hit', hs'.extBut S _ hne st.2⟩ fun b o hb e => hs'.extBut b o (fun h => hb (by simp [h])) e
  done := fun s Q E st hQ => seti_end hh st.1 st.2 b hs hl hp fun h' he' => hQ h' s.toks fun b o hb e => he' b o (fun h => hb (by simp [h])) e
  self := fun _ s _ _ st hQ => by
    refine wpAny_pyIter_slot st.1.typeIs slot_seti_iter (wpAny_call_entry slot_seti_iter st.1.typeIs entry_seti_iter ?_ (args_seti_iter _))
    show wpAny _ _ (ret (.ref I)) _ _ s
    exact wpAny_pure ⟨_, rfl, "set_iterator", _, st.1.typeIs, slot_seti_next.lookup, hQ⟩
end
end L2
/-! ### sorted(set(xs)) -/
namespace L2
open PySem PySem.SetTable PySem.Spec PyProof.Rows PySem.W
section
variable {prog : Program} {w : World} {A : Around} {E : Value → Shared → Prop} {s : Shared}
theorem collect_set {S : Addr} {es : Array (Int × Value)} {ep : Nat} {t : SetTable} {Q : List Value → Shared → Prop} (hh : A.handled = none)
    (ho : s.heap.get? S = some { cls := .type "set", dict := none, data := .set es ep t }) (b : Tb t es) (hs : es.size ≤ t.mask) (hl : t.led = !w.params.followText "set-order") (hp : t.plain = true)
    (hQ : ∀ h' tk vs, (∀ b o, s.heap.get? b = some o → h'.get? b = some o) → s.heap.objs.size ≤ h'.objs.size → vs.Perm (es.toList.map (·.2)) → Q vs { s with heap := h', toks := tk }) :
    wpAny (model prog w) A (collect (.ref S)) Q E s := by
  unfold collect
  refine wpAny_bind (wpAny_runValue (codeAny_builtin F.entry_proto_collect ?_))
  rw [Around.under_plainId F.plain_proto_collect _]
  show wpAny _ A.in1 (newList [] >>= fun l => again (.builtin "list.__iadd__" ⟨[l, .ref S], []⟩)) _ _ s
  refine wpAny_bind (wpAny_newObj_type ?_)
  refine wpAny_pure ⟨plainId_quiet F.plain_list_iadd _, codeAny_builtin F.entry_list_iadd ?_⟩
  rw [Around.under_plainId F.plain_list_iadd _]
  show wpAny _ A.in1 (Builtin.List.listExtendWith (.ref s.heap.objs.size) (.ref S) (.ref s.heap.objs.size)) _ _ _
  have hS : S < s.heap.objs.size := Heap.lt_size ho
  have ho1 : (s.heap.push { cls := .type "list", data := .seq ([] : List Value).toArray }).get? S = some { cls := .type "set", dict := none, data := .set es ep t } := Heap.get?_push_of_some _ ho
  have hT : Shared.TypeIs { s with heap := s.heap.push { cls := .type "list", data := .seq ([] : List Value).toArray } } (.ref S) "set" := ⟨_, ho1, rfl⟩
  unfold Builtin.List.listExtendWith
  refine wpAny_bind (wpAny_typeOf hT ?_)
  have h1 : Builtin.List.listSameRef (.ref s.heap.objs.size) (.ref S) = false := by
    show (s.heap.objs.size == S) = false
    exact beq_eq_false_iff_ne.mpr (Nat.ne_of_gt hS)
  have h2 : (Value.type "set" == Value.type "list") = false := by decide
  have h3 : (Value.type "set" == Value.type "tuple") = false := by decide
  simp only [h1, h2, h3, Bool.or_false, Bool.false_eq_true, if_false]
  refine wpAny_bind (iter_set ho1 b hs hp ?_)
  refine wpAny_bind (wpAny_holding ?_)
  unfold Builtin.List.listLengthHint
  generalize hH : s.heap.push { cls := .type "list", data := .seq ([] : List Value).toArray } = H at ho1 hT ⊢
  have hHs : H.objs.size = s.heap.objs.size + 1 := by rw [← hH, Heap.size_push]
  have hT2 : Shared.TypeIs { s with heap := H.push { cls := .type "set_iterator", data := .fields #[.int (slAt w t 0 : Nat) 0, .int (0 : Nat) 0, .ref S, .int es.size 0, .int ep 0] } } (.ref S) "set" := ⟨_, Heap.get?_push_of_some _ ho1, rfl⟩
  refine wpAny_bind (wpAny_specialOf hT2 F.slot_set_len.lookup ?_)
  wp_delta
  refine wpAny_bind (wpAny_isInstance (b := true) hT2 (by rw [isSubtype_type]; kernel_rfl) ?_)
  show wpAny _ A.in1 (typeOf (.ref S) >>= _) _ _ _
  refine wpAny_bind (wpAny_typeOf hT2 ?_)
  refine wpAny_pure ?_
  rw [if_pos (by decide)]
  refine wpAny_bind (wpAny_rule ?_)
  unfold Builtin.List.listTouch
  have hne : S ≠ H.objs.size := by rw [hHs]; exact Nat.ne_of_lt (Nat.lt_succ_of_lt hS)
  have hI0 : SIter (H.push { cls := .type "set_iterator", data := .fields #[.int (slAt w t 0 : Nat) 0, .int (0 : Nat) 0, .ref S, .int es.size 0, .int ep 0] }) H.objs.size S (slAt w t 0) 0 es.size ep := ⟨_, Heap.get?_push_size _ rfl, rfl, rfl⟩
  have hL : (H.push { cls := .type "set_iterator", data := .fields #[.int (slAt w t 0 : Nat) 0, .int (0 : Nat) 0, .ref S, .int es.size 0, .int ep 0] }).get? s.heap.objs.size = some (seqObj "list" #[] 0) := Heap.get?_push_of_some _ (hH ▸ Heap.get?_push_size _ rfl)
  have hS2 : (H.push { cls := .type "set_iterator", data := .fields #[.int (slAt w t 0 : Nat) 0, .int (0 : Nat) 0, .ref S, .int es.size 0, .int ep 0] }).get? S = some { cls := .type "set", dict := none, data := .set es ep t } := Heap.get?_push_of_some _ ho1
  have hold : ∀ b o, s.heap.get? b = some o → (H.push { cls := .type "set_iterator", data := .fields #[.int (slAt w t 0 : Nat) 0, .int (0 : Nat) 0, .ref S, .int es.size 0, .int ep 0] }).get? b = some o := fun b o e => Heap.get?_push_of_some _ (hH ▸ Heap.get?_push_of_some _ e)
  have hsz : (H.push { cls := .type "set_iterator", data := .fields #[.int (slAt w t 0 : Nat) 0, .int (0 : Nat) 0, .ref S, .int es.size 0, .int ep 0] }).objs.size = s.heap.objs.size + 2 := by rw [Heap.size_push, hHs]
  generalize H.push { cls := .type "set_iterator", data := .fields #[.int (slAt w t 0 : Nat) 0, .int (0 : Nat) 0, .ref S, .int es.size 0, .int ep 0] } = H1 at hI0 hL hS2 hold hsz ⊢
  refine wpAny_bind (wpAny_bind (listUpdate_at (s := { s with heap := H1 }) hL rfl ?_ (Nat.zero_le _) (by decide)))
  have hL1 := get?_update_seq hL (fun x => x.push Value.none)
  have hu1 : ∀ b, b ≠ s.heap.objs.size → (H1.update s.heap.objs.size (Obj.mapSeq fun x => x.push Value.none)).get? b = H1.get? b := (Heap.SameBut.update H1 s.heap.objs.size _).2
  dsimp only
  generalize H1.update s.heap.objs.size (Obj.mapSeq fun x => x.push Value.none) = H2 at hL1 hu1 ⊢
  refine listUpdate_at (s := { s with heap := H2 }) hL1 rfl ?_ (by simp [sizeLine_eq]) (by simp)
  have hL2 := get?_update_seq hL1 (fun x => x.pop)
  have hu2 : ∀ b, b ≠ s.heap.objs.size → (H2.update s.heap.objs.size (Obj.mapSeq fun x => x.pop)).get? b = H2.get? b := (Heap.SameBut.update H2 s.heap.objs.size _).2
  dsimp only
  generalize H2.update s.heap.objs.size (Obj.mapSeq fun x => x.pop) = H3 at hL2 hu2 ⊢
  have hk3 : ∀ b o, b ≠ s.heap.objs.size → H1.get? b = some o → H3.get? b = some o := fun b o hb e => by rw [hu2 b hb, hu1 b hb]; exact e
  have hSf : s.heap.objs.size ∉ [H.objs.size, S] := by
    rw [hHs]
    simp only [List.mem_cons, List.not_mem_nil, or_false, not_or]
    exact ⟨Nat.ne_of_lt (Nat.lt_succ_self _), Nat.ne_of_gt hS⟩
  have hSn : S ≠ s.heap.objs.size := Nat.ne_of_lt hS
  have hHn : H.objs.size ≠ s.heap.objs.size := by rw [hHs]; exact Nat.ne_of_gt (Nat.lt_succ_self _)
  refine wpAny_pure ⟨plainId_quiet F.plain_extend_loop _, codeAny_extend_loopS (walk_set (A := A.in1) (ep := ep) hh H.objs.size S hne b hs hl hp).toS ?_ _ hSf _ es.size 0 _ _ _ rfl (Nat.zero_le _) ⟨hI0.mv fun o e => hk3 _ o hHn e, hk3 S _ hSn hS2⟩ hL2 (ItemsOf.nil _) fun s' acc' c' hm hS' hacc => ?_⟩
  · have : es.size ≤ 127 := by rcases b.mask with e | e | e <;> omega
    rw [sizeLine_eq]; omega
  show wpAny _ A (load s.heap.objs.size >>= _) _ _ s'
  refine wpAny_bind (wpAny_load hS' ?_)
  obtain ⟨h', g', d', tk', os'⟩ := s'
  have eg : g' = s.gens := hm.gens
  have ed : d' = s.drawn := hm.drawn
  have eo : os' = s.os := hm.os
  subst eg; subst ed; subst eo
  refine wpAny_pure (hQ h' tk' acc'.toList (fun b o e => ?_) (Nat.le_of_lt (Heap.lt_size hS')) ?_)
  · have hlt := Heap.lt_size e
    refine hm.heap b o (fun hb => ?_) (hk3 b o (Nat.ne_of_lt hlt) (hold b o e))
    simp only [List.mem_cons, List.not_mem_nil, or_false] at hb
    rcases hb with hb | hb
    · exact absurd hlt (by rw [hb]; exact Nat.lt_irrefl _)
    · rw [hb, hHs] at hlt; exact absurd hlt (Nat.not_lt.mpr (Nat.le_succ _))
  · have : acc'.toList = (wkOf w S ep es).toList.map (·.2) := by
      apply List.ext_getElem?
      intro i
      rw [List.getElem?_map, Array.getElem?_toList, Array.getElem?_toList]
      rcases Nat.lt_or_ge i es.size with c | c
      · have hi : i < acc'.size := by rw [hacc.1]; exact c
        obtain ⟨e, he, hv⟩ := hacc.2 i _ (Array.getElem?_eq_getElem hi)
        rw [Array.getElem?_eq_getElem hi, hv, he]; rfl
      · rw [Array.getElem?_eq_none (by rw [hacc.1]; exact c), Array.getElem?_eq_none (by rw [wk_size]; exact c)]; rfl
    rw [this]
    exact (wk_perm w S ep es).map _
abbrev lsH (h : Heap) (vs : List Value) : Heap := h.push (seqObj "list" vs.toArray 0)
theorem lsH_at (h : Heap) (vs : List Value) : (lsH h vs).get? h.objs.size = some (seqObj "list" vs.toArray 0) := Heap.get?_push_size _ rfl
theorem lsIn_old {h : Heap} {vs : List Value} {b : Addr} {o : Obj} (hb : h.get? b = some o) : (sortIn (lsH h vs) h.objs.size vs).get? b = some o := by
  have hlt : b < h.objs.size := Heap.lt_size hb
  have n0 : b ≠ h.objs.size := Nat.ne_of_lt hlt
  have n1 : b ≠ h.objs.size + 1 := Nat.ne_of_lt (Nat.lt_succ_of_lt hlt)
  have n2 : b ≠ h.objs.size + 1 + 1 := Nat.ne_of_lt (Nat.lt_succ_of_lt (Nat.lt_succ_of_lt hlt))
  rw [Heap.get?_push_ne _ _ _ (by rw [size_push', Heap.size_update, size_push']; exact n2), Heap.get?_push_ne _ _ _ (by rw [Heap.size_update, size_push']; exact n1), Heap.get?_update_ne _ _ _ _ n0, Heap.get?_push_ne _ _ _ n0]
  exact hb
theorem lsOut_old {h : Heap} {vs : List Value} {out : Array Value} {b : Addr} {o : Obj} (hb : h.get? b = some o) : (sortedHeap (lsH h vs) h.objs.size vs out).get? b = some o := by
  unfold sortedHeap
  rw [Heap.get?_update_ne _ _ _ _ (Nat.ne_of_lt (Heap.lt_size hb))]
  exact lsIn_old hb
theorem lsOut_at (h : Heap) (vs : List Value) (out : Array Value) : ∃ e, (sortedHeap (lsH h vs) h.objs.size vs out).get? h.objs.size = some (seqObj "list" out e) := by
  obtain ⟨e1, ho1⟩ : ∃ e1, ((lsH h vs).update h.objs.size (Obj.mapSeq fun _ => (#[] : Array Value))).get? h.objs.size = some (seqObj "list" #[] e1) := ⟨_, get?_update_seq (lsH_at h vs) (fun _ => #[])⟩
  have ho6 : (sortIn (lsH h vs) h.objs.size vs).get? h.objs.size = some (seqObj "list" #[] e1) := by
    rw [Heap.get?_push_ne _ _ _ (by rw [size_push', Heap.size_update, size_push']; exact Nat.ne_of_lt (Nat.lt_succ_of_lt (Nat.lt_succ_self _))), Heap.get?_push_ne _ _ _ (by rw [Heap.size_update, size_push']; exact Nat.ne_of_lt (Nat.lt_succ_self _))]
    exact ho1
  exact ⟨_, get?_update_seq ho6 (fun _ => out)⟩
/-- sorted(v), whatever v is walked over -/
theorem sorted_via {v : Value} {Good : List Value → Shared → Prop} {Q : Value → Shared → Prop} (hcol : wpAny (model prog w) A.in1 (collect v) Good E s)
    (h : ∀ vs s1, Good vs s1 → vs.length < 64 ∧ (vs.length < 2 → Q (.ref s1.heap.objs.size) { s1 with heap := sortedHeap (lsH s1.heap vs) s1.heap.objs.size vs vs.toArray }) ∧
      (2 ≤ vs.length → ∃ (c : Nat → Nat → Bool) (kd : SortKind),
        (∀ (R : SortKind → Shared → Prop) (E : Value → Shared → Prop), R kd { s1 with heap := sortIn (lsH s1.heap vs) s1.heap.objs.size vs } → wpAny (model prog w) A.in1.in1 (keyKind' vs.toArray) R E { s1 with heap := sortIn (lsH s1.heap vs) s1.heap.objs.size vs }) ∧
        (∀ i j, i < vs.length → j < vs.length → ∀ C : Bool → Shared → Prop, C (c i j) { s1 with heap := sortIn (lsH s1.heap vs) s1.heap.objs.size vs } → wpAny (model prog w) A.in1.in1 (keyLt' kd (vs.getD i .none) (vs.getD j .none)) C (fun _ _ => False) { s1 with heap := sortIn (lsH s1.heap vs) s1.heap.objs.size vs }) ∧
        ∀ p, Ord vs.length p → p = krun c (kas_sort vs.length) → Q (.ref s1.heap.objs.size) { s1 with heap := sortedHeap (lsH s1.heap vs) s1.heap.objs.size vs (p.map fun i => vs.getD i .none) })) :
    wpAny (model prog w) A (call (.builtin "sorted") [v]) Q E s := by
  refine Calls.call_function_entry kind_sorted plain_sorted entry_sorted (args_sorted1 _) ?_
  unfold Builtin.«sorted»
  refine wpAny_bind (m := checkCount "sorted" 1 1 _) (wpAny_pure ?_)
  refine wpAny_bind (thn hcol fun vs s1 g => ?_)
  obtain ⟨h64, few, many⟩ := h vs s1 g
  refine wpAny_bind (wpAny_newList ?_ (by rw [sizeLine_eq]; omega))
  show wpAny _ _ _ _ _ { s1 with heap := lsH s1.heap vs }
  by_cases h2 : vs.length < 2
  · refine wpAny_bind (wpAny_holding (wpAny_call_entry slot_list_sort ⟨_, lsH_at s1.heap vs, rfl⟩ entry_list_sort (sort_few (s := { s1 with heap := lsH s1.heap vs }) (lsH_at s1.heap vs) h2 ⟨_, rfl, ?_⟩) (args_list_sort _)))
    exact wpAny_pure ⟨_, rfl, few h2⟩
  · obtain ⟨c, kd, hkd, hc, hq⟩ := many (by omega)
    refine wpAny_bind (wpAny_holding (wpAny_call_entry slot_list_sort ⟨_, lsH_at s1.heap vs, rfl⟩ entry_list_sort (sort_kasC (c := c) (s := { s1 with heap := lsH s1.heap vs }) (lsH_at s1.heap vs) (by omega) h64 (fun R => hkd R _) hc fun p hp hpc => ⟨_, rfl, ?_⟩) (args_list_sort _)))
    exact wpAny_pure ⟨_, rfl, hq p hp hpc⟩
end
section
variable {X : Cx} {pins : List (Addr × Obj)} {σ : St} {H : Hp} {s : Shared}
theorem vals_int : ∀ {xs : List Int} {vs : List Value}, Vals (xs.map V.int) vs → ∀ (prog : Program) (w : World), ItemsAre (intKind prog w) xs vs
  | [], _, .nil, _, _ => .nil
  | x :: xs, _, .cons r1 r2, prog, w => by
    obtain ⟨t, rfl⟩ := r1
    exact .cons (intKind_is prog w x t) (vals_int r2 prog w)
theorem tkey_of (I : Inv X pins σ H s) {a : Addr} {xs : List Int} (h : SqT X.K H a (xs.map V.int)) : IsTupleKey (intKind X.prog X.w) s.heap xs a := by
  obtain ⟨its, r, p, z⟩ := I.tuple h
  obtain ⟨o, ho, hc, n, hd⟩ := p
  exact ⟨o, _, n, ho, hc, hd, vals_int r _ _⟩
theorem hu8_of {A : Around} {k : Nat} (hr : Room k A) : A.units + 8 < cLine := Nat.lt_of_le_of_lt (Nat.add_le_add_left (by decide : 8 ≤ 64) _) hr.units
/-- what is sorted: a list of tuples of m ints -/
theorem sort_tail (I : Inv X pins σ H s) {rs : List V} {xss : List (List Int)} {m : Nat} {vs : List Value} (hi : Iss H (xss.map tI) rs) (r' : Vals rs vs) (hm : 0 < m) (hne' : ∀ xs ∈ xss, xs.length = m) (hlen : xss.length < 64) {Q : VK}
    (q : ∀ (yss : List (List Int)) (q : Addr) (H' : Hp), yss.Perm xss → (∀ i j, i < j → j < yss.length → ltI (yss.getD j []) (yss.getD i []) = false) → H q = none → Same H H' → Is H' (.l (yss.map tI)) (.ref q) → Q (.ref q) H') (A : Around) :
    vs.length < 64 ∧ (vs.length < 2 → EP X pins σ Q (.ref s.heap.objs.size) { s with heap := sortedHeap (lsH s.heap vs) s.heap.objs.size vs vs.toArray }) ∧
      (2 ≤ vs.length → ∃ (c : Nat → Nat → Bool) (kd : SortKind),
        (∀ (R : SortKind → Shared → Prop) (E : Value → Shared → Prop), R kd { s with heap := sortIn (lsH s.heap vs) s.heap.objs.size vs } → wpAny (model X.prog X.w) A.in1.in1 (keyKind' vs.toArray) R E { s with heap := sortIn (lsH s.heap vs) s.heap.objs.size vs }) ∧
        (∀ i j, i < vs.length → j < vs.length → ∀ C : Bool → Shared → Prop, C (c i j) { s with heap := sortIn (lsH s.heap vs) s.heap.objs.size vs } → wpAny (model X.prog X.w) A.in1.in1 (keyLt' kd (vs.getD i .none) (vs.getD j .none)) C (fun _ _ => False) { s with heap := sortIn (lsH s.heap vs) s.heap.objs.size vs }) ∧
        ∀ p, Ord vs.length p → p = krun c (kas_sort vs.length) → EP X pins σ Q (.ref s.heap.objs.size) { s with heap := sortedHeap (lsH s.heap vs) s.heap.objs.size vs (p.map fun i => vs.getD i .none) }) := by
  have hne : ∀ xs ∈ xss, xs ≠ [] := fun xs hx z => by have := hne' xs hx; rw [z] at this; exact absurd this (by show ¬ 0 = m; omega)
  have hrs : rs.length = xss.length := by rw [hi.length, List.length_map]
  have ln := r'.length
  have lns : vs.length = xss.length := by omega
  refine ⟨by omega, fun h2 => ?_, fun h2 => ⟨ordC xss, tuples' true, fun R E hR => ?_, fun i j hi' hj' C hC => ?_, fun p ho hpc => ?_⟩⟩
  · obtain ⟨e, he⟩ := lsOut_at s.heap vs vs.toArray
    have fr := I.hok.fresh (a := s.heap.objs.size) (Nat.le_refl _)
    exact ⟨.ref s.heap.objs.size, _, I.laid (t' := s.toks) (fun _ _ => lsOut_old) (Nat.le_refl _) (show ObjOk X.prog X.w _ _ _ (.lst rs) from ⟨by rw [sizeLine_eq]; omega, vs, e, r', he⟩), rfl, q xss _ _ (List.Perm.refl _) (fun i j a b => absurd b (by omega)) fr (Same.new fr) (is_l upd_same (hi.mono (Same.new fr)))⟩
  · have I2 : Inv X pins σ H { s with heap := sortIn (lsH s.heap vs) s.heap.objs.size vs } := I.kept (t' := s.toks) fun b o e => lsIn_old e
    obtain ⟨fs, k1, k2, k3⟩ := kat_tups I2 hi r' hne
    exact kat_kind (T := .type "int") k1 (by omega) (fun f hf => by obtain ⟨z, t, rfl⟩ := k3 f hf; exact .now) rfl hR
  · have I2 : Inv X pins σ H { s with heap := sortIn (lsH s.heap vs) s.heap.objs.size vs } := I.kept (t' := s.toks) fun b o e => lsIn_old e
    have g : ∀ i, i < xss.length → ∃ a, vs.getD i .none = .ref a ∧ SqT X.K H a ((xss.getD i []).map V.int) := fun i h => by
      have hr : i < rs.length := by omega
      obtain ⟨d, hd, h1⟩ := hi.of_get (List.getElem?_eq_getElem hr)
      rw [List.getElem?_map, List.getElem?_eq_getElem h] at hd
      cases hd
      obtain ⟨a, ea, ha⟩ := of_tI h1
      obtain ⟨u, hu1, ru⟩ := r'.get (List.getElem?_eq_getElem hr)
      rw [ea] at ru
      obtain rfl : u = Value.ref a := ru
      refine ⟨a, ?_, ?_⟩
      · rw [List.getD_eq_getElem?_getD, hu1]; rfl
      · rw [List.getD_eq_getElem?_getD, List.getElem?_eq_getElem h]
        exact SqT.of ha
    obtain ⟨a1, e1, s1⟩ := g i (by omega)
    obtain ⟨a2, e2, s2⟩ := g j (by omega)
    rw [e1, e2]
    rw [ordC_in (by omega) (by omega)] at hC
    exact key_ints I2 s1 s2 hC
  · rw [lns] at ho hpc
    have hpl : ∀ i ∈ p.toList, i < xss.length := fun i hi => ho.lt hi
    obtain ⟨e, he⟩ := lsOut_at s.heap vs (p.map fun i => vs.getD i .none)
    have en : (p.map fun i => vs.getD i .none) = List.toArray (p.toList.map fun i => vs.getD i .none) := by
      apply Array.toList_inj.mp
      simp
    rw [en] at he ⊢
    have fr := I.hok.fresh (a := s.heap.objs.size) (Nat.le_refl _)
    refine ⟨.ref s.heap.objs.size, _, I.laid (t' := s.toks) (fun _ _ => lsOut_old) (Nat.le_refl _) (show ObjOk X.prog X.w _ _ _ (.lst (p.toList.map fun i => rs.getD i .non)) from ⟨?_, _, e, vals_getD r' p.toList (fun i hi => by rw [hrs]; exact hpl i hi), he⟩), rfl, q (p.toList.map fun i => xss.getD i []) _ _ ?_ ?_ fr (Same.new fr) (is_l upd_same ((iss_getD hi p.toList hpl).mono (Same.new fr)))⟩
    · rw [List.length_map, Array.length_toList, sizeLine_eq, ho.size]
      omega
    · have pp := (Array.perm_iff_toList_perm.mp ho).map fun i => xss.getD i []
      rw [show (List.range xss.length).toArray.toList = List.range xss.length from rfl, map_getD] at pp
      exact pp
    · intro i j hij hj
      rw [List.length_map, Array.length_toList, ho.size] at hj
      have up := krun_sort (ordr_of (xss := xss) (m := m) (by omega) hne') (n := xss.length) (by omega) i j hij hj
      rw [← hpc] at up
      have g : ∀ i, i < xss.length → (p.toList.map fun i => xss.getD i []).getD i [] = xss.getD (at0 p i) [] ∧ at0 p i < xss.length := fun i h => by
        have hs : i < p.size := by rw [ho.size]; exact h
        have e : at0 p i = p[i] := by simp [at0, Array.getD, hs]
        rw [e]
        refine ⟨?_, ho.lt (by simp)⟩
        rw [List.getD_eq_getElem?_getD, List.getElem?_map]
        simp [hs]
      obtain ⟨g1, g2⟩ := g i (by omega)
      obtain ⟨g3, g4⟩ := g j hj
      rw [g1, g3]
      rw [ordC_in g4 g2] at up
      exact up
theorem list_choose {α β : Type} {f : β → α} {P : β → Prop} : ∀ (vs : List α), (∀ v ∈ vs, ∃ j, P j ∧ v = f j) → ∃ js : List β, vs = js.map f ∧ ∀ j ∈ js, P j
  | [], _ => ⟨[], rfl, fun _ h => nomatch h⟩
  | v :: vs, h => by
    obtain ⟨j, pj, e⟩ := h v (by simp)
    obtain ⟨js, es, ps⟩ := list_choose vs fun u hu => h u (by simp [hu])
    exact ⟨j :: js, by rw [e, es]; rfl, fun i hi => by rcases List.mem_cons.mp hi with rfl | hi; exact pj; exact ps i hi⟩
theorem vals_refs (ad : Nat → Addr) : ∀ js : List Nat, Vals (js.map fun j => V.ref (ad j)) (js.map fun j => Value.ref (ad j))
  | [] => .nil
  | j :: js => .cons rfl (vals_refs ad js)
theorem iss_refs {H : Hp} (kk : Nat → List Int) (ad : Nat → Addr) : ∀ js : List Nat, (∀ j ∈ js, H (ad j) = some (.tup ((kk j).map V.int))) → Iss H ((js.map kk).map tI) (js.map fun j => V.ref (ad j))
  | [], _ => iss_nil
  | j :: js, h => iss_cons (is_tI (h j (by simp))) (iss_refs kk ad js fun i hi => h i (by simp [hi]))
/-- what a walk over a set made of n things tells -/
theorem set_told {prog : Program} {w : World} {h' : Heap} {kk : Nat → List Int} {ad : Nat → Addr} {n : Nat} {es : Array (Int × Value)} {vs : List Value} (en : Ent prog w h' es) (mk : Made prog w kk ad n es)
    (hkey : ∀ j, j < n → IsTupleKey (intKind prog w) h' (kk j) (ad j)) (hp : vs.Perm (es.toList.map (·.2))) :
    ∃ js : List Nat, vs = js.map (fun j => Value.ref (ad j)) ∧ (∀ j ∈ js, j < n) ∧ (js.map kk).Nodup ∧ ∀ j, j < n → kk j ∈ js.map kk := by
  have vmem : ∀ v, v ∈ vs ↔ ∃ p g, es[p]? = some (g, v) := fun v => by
    rw [hp.mem_iff, List.mem_map]
    constructor
    · rintro ⟨⟨g, v'⟩, he, rfl⟩
      obtain ⟨p, hp, e⟩ := Array.mem_iff_getElem.mp (Array.mem_toList_iff.mp he)
      exact ⟨p, g, by rw [Array.getElem?_eq_getElem hp, e]⟩
    · rintro ⟨p, g, e⟩
      have hp := get_lt e
      rw [Array.getElem?_eq_getElem hp, Option.some.injEq] at e
      exact ⟨(g, v), by rw [← e]; simp, rfl⟩
  obtain ⟨js, ev, pj⟩ := list_choose (f := fun j => Value.ref (ad j)) (P := fun j => j < n ∧ ∃ p g, es[p]? = some (g, Value.ref (ad j))) vs fun v hv => by
    obtain ⟨p, g, e⟩ := (vmem v).mp hv
    obtain ⟨j, hj, e'⟩ := mk.from_ p _ e
    simp only [Prod.mk.injEq] at e'
    obtain ⟨_, rfl⟩ := e'
    exact ⟨j, ⟨hj, p, g, e⟩, rfl⟩
  have nd : vs.Nodup := by
    rw [hp.nodup_iff]
    unfold List.Nodup
    rw [List.pairwise_map, List.pairwise_iff_getElem]
    intro i j hi hj hij e
    rw [Array.length_toList] at hi hj
    obtain ⟨k, b, e1, q1⟩ := en.ent i hi
    obtain ⟨k', b', e2, q2⟩ := en.ent j hj
    have z1 : es.toList[i].2 = Value.ref b := by
      rw [Array.getElem?_eq_getElem hi, Option.some.injEq] at e1
      simp [e1]
    have z2 : es.toList[j].2 = Value.ref b' := by
      rw [Array.getElem?_eq_getElem hj, Option.some.injEq] at e2
      simp [e2]
    rw [z1, z2, Value.ref.injEq] at e
    subst e
    have := en.dis i j k b b _ _ e1 e2 q1 q1
    omega
  refine ⟨js, ev, fun j hj => (pj j hj).1, ?_, fun j hj => ?_⟩
  · rw [ev] at nd
    unfold List.Nodup at nd ⊢
    rw [List.pairwise_map] at nd ⊢
    refine List.Pairwise.imp_of_mem (fun {a b} ha hb hne e => hne ?_) nd
    obtain ⟨la, p, g, ea⟩ := pj a ha
    obtain ⟨lb, p', g', eb⟩ := pj b hb
    have := en.dis p p' (kk a) _ _ _ _ ea eb (hkey a la) (by rw [e]; exact hkey b lb)
    subst this
    rw [ea] at eb
    simp only [Option.some.injEq, Prod.mk.injEq] at eb
    exact eb.2
  · obtain ⟨p, j', hj', ek, e⟩ := mk.all j hj
    have := (vmem _).mpr ⟨p, _, e⟩
    rw [ev] at this
    obtain ⟨i, hi, ei⟩ := List.mem_map.mp this
    simp only [Value.ref.injEq] at ei
    have q1 := hkey i (pj i hi).1
    rw [ei] at q1
    have := q1.inj (hkey j' hj')
    rw [← ek, ← this]
    exact List.mem_map_of_mem hi
end
end L2
/-! ### dicts keyed by tuples: a display of one pair, the walk over the keys, the sum of the values -/
namespace L2
open PySem PySem.Spec PyProof.Rows PySem.W
section
variable {prog : Program} {w : World} {A : Around} {E : Value → Shared → Prop} {s : Shared}
theorem dit_iter {d : Addr} {o : Obj} {es : Array DictEntry} {ep : Nat} {Q : Value → Shared → Prop} (hd : (d == sysModules) = false) (ho : s.heap.get? d = some o) (hc : o.ExactDict) (hdat : o.data = .dict es ep)
    (hQ : Q (.ref s.heap.objs.size) { s with heap := s.heap.push { cls := .type "dict_keyiterator", data := .fields #[.ref d, .int 0 0, .int es.size 0, .int ep 0] } }) :
    wpAny (model prog w) A (pyIter (.ref d)) Q E s := by
  have hT : s.TypeIs (.ref d) "dict" := ⟨o, ho, hc.1⟩
  refine wpAny_pyIter_slot hT PySem.F.slot_dict_iter (wpAny_call_entry PySem.F.slot_dict_iter hT PySem.F.entry_dict_iter ?_ (PySem.F.args_dict_iter_1 _)); unfold Builtin.«dict.__iter__»
  refine wpAny_bind ?_; unfold Builtin.Dict.dictSlotNone
  refine wpAny_bind (wpAny_notOrdered_dict hT ?_); show wpAny _ _ (pure (Value.ref d)) _ _ s
  refine wpAny_pure ?_; show wpAny _ _ (Builtin.Dict.showsAll d >>= _) _ _ s
  unfold Builtin.Dict.showsAll; rw [if_neg (by rw [hd]; exact Bool.false_ne_true)]
  refine wpAny_bind (wpAny_pure ?_); refine wpAny_bind (wpAny_dictEntries ho hdat ?_); refine wpAny_bind (wpAny_dictEpoch ho hdat ?_)
  refine wpAny_bind (wpAny_newObj_type (wpAny_pure ⟨_, rfl, "dict_keyiterator", _, ⟨_, Heap.get?_push_size _ rfl, rfl⟩, PySem.F.slot_dict_keyiterator_next.lookup, ?_⟩)); simpa [rawInt] using hQ
theorem dit_item {it d : Addr} {o : Obj} {es : Array DictEntry} {i ep : Nat} {e : DictEntry} {Q : Option Value → Shared → Prop} (hit : s.heap.IsKeyIter it d i es.size ep) (hod : s.heap.get? d = some o) (hdd : o.data = .dict es ep) (he : es[i]? = some e)
    (hQ : ∀ h', h'.IsKeyIter it d (i + 1) es.size ep → Heap.SameBut it s.heap h' → Q (some e.key) { s with heap := h' }) : wpAny (model prog w) A (pyNext (.ref it)) Q E s := by
  obtain ⟨oi, ho, hc, hd⟩ := id hit
  have hlt : i < es.size := (Array.getElem?_eq_some_iff.mp he).1
  unfold pyNext; refine wpAny_bind (wpAny_attempt (wpAny_callSpecial?_slot (name := Str.ofString "__next__") hit.typeIs PySem.F.slot_dict_keyiterator_next (wpAny_call_entry PySem.F.slot_dict_keyiterator_next hit.typeIs PySem.F.entry_dict_keyiterator_next ?_ (PySem.F.args_dict_keyiterator_next_1 _))))
  refine wpAny_bind (wpAny_pure ?_); refine wpAny_bind ?_; refine wpAny_bind ?_
  first | refine wpAny_bind (wpAny_typeNameOfWhole_keyiter hit.typeIs (wpAny_pure ?_)); skip | refine wpAny_bind (wpAny_typeNameOf_keyiter hit.typeIs (wpAny_pure ?_)); skip
  refine wpAny_bind (wpAny_fieldsOf ho hd ?_); have hown : Builtin.Dict_items.ownsTuple "dict_keyiterator" = false := by decide
  simp only [hown, Bool.false_eq_true, if_false]; show wpAny _ _ (if (Value.ref d == Value.none) = true then _ else _) _ _ s
  rw [if_neg (show ¬ ((Value.ref d == Value.none) = true) from Bool.false_ne_true)]; refine wpAny_bind (wpAny_pure ?_)
  refine wpAny_bind (wpAny_dictEntries hod hdd ?_); rw [if_neg (by simp)]
  refine wpAny_bind (wpAny_pure ?_); refine wpAny_bind (wpAny_dictEpoch hod hdd ?_); rw [if_neg (by simp)]; refine wpAny_pure ?_
  simp only [show ¬ ((i : Int) < 0) from by omega, if_false, Int.toNat_natCast, he]; refine wpAny_bind ?_
  first | refine wpAny_bind (wpAny_typeNameOfWhole_keyiter hit.typeIs (wpAny_pure ?_)); skip | refine wpAny_bind (wpAny_typeNameOf_keyiter hit.typeIs (wpAny_pure ?_)); skip
  refine wpAny_bind (wpAny_isOneOf_keyiter hit.typeIs ?_); show wpAny _ _ (setField (.ref it) 1 (rawInt ((i : Int) + 1)) >>= _) _ _ s
  refine wpAny_bind (wpAny_setField ho hd (by simp) ?_)
  have st' : (s.heap.update it (Obj.mapFields (·.setIfInBounds 1 (rawInt ((i : Int) + 1))))).IsKeyIter it d (i + 1) es.size ep := ⟨_, Heap.get?_update_self _ ho (Obj.isFreed_of_fields (Obj.data_mapFields hd _)), (Obj.cls_mapFields ..).trans hc, by rw [Obj.data_mapFields hd]; simp [rawInt]⟩
  refine wpAny_bind (wpAny_holding ?_); refine wpAny_bind (wpAny_isOneOf_keyiter (s := { s with heap := s.heap.update it (Obj.mapFields (·.setIfInBounds 1 (rawInt ((i : Int) + 1)))) }) st'.typeIs ?_)
  show wpAny _ _ (pure e.key) _ _ _; exact wpAny_pure (wpAny_pure ⟨_, rfl, wpAny_pure (hQ _ st' (Heap.SameBut.update ..))⟩)
theorem dit_end {it d : Addr} {o : Obj} {es : Array DictEntry} {i ep : Nat} {Q : Option Value → Shared → Prop} (hh : A.handled = none) (hit : s.heap.IsKeyIter it d i es.size ep) (hod : s.heap.get? d = some o) (hdd : o.data = .dict es ep) (he : es.size ≤ i)
    (hQ : ∀ h', Heap.ExtBut it s.heap h' → Q none { s with heap := h' }) : wpAny (model prog w) A (pyNext (.ref it)) Q E s := by
  obtain ⟨oi, ho, hc, hd⟩ := id hit
  unfold pyNext; refine wpAny_bind (wpAny_attempt (wpAny_callSpecial?_slot (name := Str.ofString "__next__") hit.typeIs PySem.F.slot_dict_keyiterator_next (wpAny_call_entry PySem.F.slot_dict_keyiterator_next hit.typeIs PySem.F.entry_dict_keyiterator_next ?_ (PySem.F.args_dict_keyiterator_next_1 _))))
  refine wpAny_bind (wpAny_pure ?_); refine wpAny_bind ?_; refine wpAny_bind ?_
  first | refine wpAny_bind (wpAny_typeNameOfWhole_keyiter hit.typeIs (wpAny_pure ?_)); skip | refine wpAny_bind (wpAny_typeNameOf_keyiter hit.typeIs (wpAny_pure ?_)); skip
  refine wpAny_bind (wpAny_fieldsOf ho hd ?_); have hown : Builtin.Dict_items.ownsTuple "dict_keyiterator" = false := by decide
  simp only [hown, Bool.false_eq_true, if_false]; show wpAny _ _ (if (Value.ref d == Value.none) = true then _ else _) _ _ s
  rw [if_neg (show ¬ ((Value.ref d == Value.none) = true) from Bool.false_ne_true)]; refine wpAny_bind (wpAny_pure ?_)
  refine wpAny_bind (wpAny_dictEntries hod hdd ?_); rw [if_neg (by simp)]
  refine wpAny_bind (wpAny_pure ?_); refine wpAny_bind (wpAny_dictEpoch hod hdd ?_); rw [if_neg (by simp)]; refine wpAny_pure ?_
  simp only [show ¬ ((i : Int) < 0) from by omega, if_false, Int.toNat_natCast, Array.getElem?_eq_none he]; refine wpAny_bind ?_
  first | refine wpAny_bind (wpAny_typeNameOfWhole_keyiter hit.typeIs (wpAny_pure ?_)); skip | refine wpAny_bind (wpAny_typeNameOf_keyiter hit.typeIs (wpAny_pure ?_)); skip
  show wpAny _ _ (setField (.ref it) 0 .none >>= _) _ _ s; refine wpAny_bind (wpAny_setField ho hd (by simp) ?_)
  show wpAny _ _ (newExc (.type "StopIteration") [] >>= _) _ _ _; refine wpAny_bind ?_; simp only [newExc, newTuple]
  refine wpAny_bind (wpAny_newObj_type ?_ (by size_fits)); refine wpAny_bind (m := firstArgMember _ _) (wpAny_of_eq (a := Value.none) (by first | rfl | (simp only [firstArgMember]; rfl)) ?_)
  refine wpAny_newObj_type ?_ (by size_fits); simp only [raiseNew]; refine wpAny_bind (wpAny_handled ?_); rw [show A.in1.handled = none from hh]
  refine wpAny_bind (wpAny_pure (wpAny_throw ?_)); refine wpAny_bind (wpAny_isInstance (T := "StopIteration") (b := true) ⟨_, Heap.get?_push_size _ rfl, rfl⟩ isSubtype_stop ?_)
  exact wpAny_pure (hQ _ (((Heap.SameBut.update ..).extBut.push _).push _))
end
section
variable {prog : Program} {w : World} {A : Around} {E : Value → Shared → Prop} {s : Shared}
theorem dv_call {d : Addr} {o : Obj} {Q : Value → Shared → Prop} (hd : (d == sysModules) = false) (ho : s.heap.get? d = some o) (hc : o.ExactDict)
    (hQ : Q (.ref s.heap.objs.size) { s with heap := s.heap.push { cls := .type "dict_values", data := .fields #[.ref d] } }) : wpAny (model prog w) A (call (.builtin "dict.values") [.ref d]) Q E s := by
  have hT : s.TypeIs (.ref d) "dict" := ⟨o, ho, hc.1⟩
  refine wpAny_call_entry PySem.F.slot_dict_values hT PySem.F.entry_dict_values ?_ (PySem.F.args_dict_values_1 _)
  refine wpAny_bind ?_; unfold Builtin.Dict.noArgs; refine wpAny_bind (wpAny_notOrdered_dict hT ?_); show wpAny _ _ (pure d) _ _ s
  refine wpAny_pure ?_; show wpAny _ _ (Builtin.Dict.showsAll d >>= _) _ _ s; unfold Builtin.Dict.showsAll; rw [if_neg (by rw [hd]; exact Bool.false_ne_true)]
  refine wpAny_bind (wpAny_pure ?_); exact wpAny_bind (wpAny_newObj_type (wpAny_pure ⟨_, rfl, hQ⟩))
theorem dv_iter {v d : Addr} {o : Obj} {es : Array DictEntry} {ep : Nat} {Q : Value → Shared → Prop} (hv : s.heap.IsValuesView v d) (ho : s.heap.get? d = some o) (hdat : o.data = .dict es ep)
    (hQ : Q (.ref s.heap.objs.size) { s with heap := s.heap.push { cls := .type "dict_valueiterator", data := .fields #[.ref d, .int 0 0, .int es.size 0, .int ep 0] } }) :
    wpAny (model prog w) A (pyIter (.ref v)) Q E s := by
  obtain ⟨ov, hov, hcv, hdv⟩ := id hv
  refine wpAny_pyIter_slot hv.typeIs PySem.F.slot_dict_values_iter (wpAny_call_entry PySem.F.slot_dict_values_iter hv.typeIs PySem.F.entry_dict_values_iter ?_ (PySem.F.args_dict_values_iter_1 _)); unfold Builtin.«dict_values.__iter__»
  refine wpAny_bind (wpAny_pure ?_); refine wpAny_bind ?_; unfold Builtin.Dict_items.dictOf
  refine wpAny_bind (wpAny_field hov hdv (x := .ref d) rfl (wpAny_pure ?_)); refine wpAny_bind ?_; unfold Builtin.Dict_items.newIterator
  refine wpAny_bind (wpAny_dictEntries ho hdat ?_); refine wpAny_bind (wpAny_dictEpoch ho hdat ?_); have hown : Builtin.Dict_items.ownsTuple "dict_valueiterator" = false := by decide
  simp only [hown, Bool.false_eq_true, if_false]; refine wpAny_newObj_type (wpAny_pure ⟨_, rfl, "dict_valueiterator", _, ⟨_, Heap.get?_push_size _ rfl, rfl⟩, PySem.F.slot_dict_valueiterator_next.lookup, ?_⟩)
  simpa [rawInt] using hQ
theorem dv_item {it d : Addr} {o : Obj} {es : Array DictEntry} {i ep : Nat} {e : DictEntry} {Q : Option Value → Shared → Prop} (hit : s.heap.IsValIter it d i es.size ep) (hod : s.heap.get? d = some o) (hdd : o.data = .dict es ep) (he : es[i]? = some e)
    (hQ : ∀ h', h'.IsValIter it d (i + 1) es.size ep → Heap.SameBut it s.heap h' → Q (some e.val) { s with heap := h' }) : wpAny (model prog w) A (pyNext (.ref it)) Q E s := by
  obtain ⟨oi, ho, hc, hd⟩ := id hit
  have hlt : i < es.size := (Array.getElem?_eq_some_iff.mp he).1
  unfold pyNext; refine wpAny_bind (wpAny_attempt (wpAny_callSpecial?_slot (name := Str.ofString "__next__") hit.typeIs PySem.F.slot_dict_valueiterator_next (wpAny_call_entry PySem.F.slot_dict_valueiterator_next hit.typeIs PySem.F.entry_dict_valueiterator_next ?_ (PySem.F.args_dict_valueiterator_next_1 _))))
  refine wpAny_bind (wpAny_pure ?_); refine wpAny_bind ?_; refine wpAny_bind ?_
  first | refine wpAny_bind (wpAny_typeNameOfWhole_valiter hit.typeIs (wpAny_pure ?_)); skip | refine wpAny_bind (wpAny_typeNameOf_valiter hit.typeIs (wpAny_pure ?_)); skip
  refine wpAny_bind (wpAny_fieldsOf ho hd ?_); have hown : Builtin.Dict_items.ownsTuple "dict_valueiterator" = false := by decide
  simp only [hown, Bool.false_eq_true, if_false]; show wpAny _ _ (if (Value.ref d == Value.none) = true then _ else _) _ _ s
  rw [if_neg (show ¬ ((Value.ref d == Value.none) = true) from Bool.false_ne_true)]; refine wpAny_bind (wpAny_pure ?_)
  refine wpAny_bind (wpAny_dictEntries hod hdd ?_); rw [if_neg (by simp)]
  refine wpAny_bind (wpAny_pure ?_); refine wpAny_bind (wpAny_dictEpoch hod hdd ?_); rw [if_neg (by simp)]; refine wpAny_pure ?_
  simp only [show ¬ ((i : Int) < 0) from by omega, if_false, Int.toNat_natCast, he]; refine wpAny_bind ?_
  first | refine wpAny_bind (wpAny_typeNameOfWhole_valiter hit.typeIs (wpAny_pure ?_)); skip | refine wpAny_bind (wpAny_typeNameOf_valiter hit.typeIs (wpAny_pure ?_)); skip
  refine wpAny_bind (wpAny_isOneOf_valiter hit.typeIs ?_); show wpAny _ _ (setField (.ref it) 1 (rawInt ((i : Int) + 1)) >>= _) _ _ s
  refine wpAny_bind (wpAny_setField ho hd (by simp) ?_)
  have st' : (s.heap.update it (Obj.mapFields (·.setIfInBounds 1 (rawInt ((i : Int) + 1))))).IsValIter it d (i + 1) es.size ep := ⟨_, Heap.get?_update_self _ ho (Obj.isFreed_of_fields (Obj.data_mapFields hd _)), (Obj.cls_mapFields ..).trans hc, by rw [Obj.data_mapFields hd]; simp [rawInt]⟩
  refine wpAny_bind (wpAny_holding ?_); refine wpAny_bind (wpAny_isOneOf_valiter (s := { s with heap := s.heap.update it (Obj.mapFields (·.setIfInBounds 1 (rawInt ((i : Int) + 1)))) }) st'.typeIs ?_)
  refine wpAny_bind (wpAny_isOneOf_valiter (s := { s with heap := s.heap.update it (Obj.mapFields (·.setIfInBounds 1 (rawInt ((i : Int) + 1)))) }) st'.typeIs ?_); show wpAny _ _ (pure e.val) _ _ _
  exact wpAny_pure (wpAny_pure ⟨_, rfl, wpAny_pure (hQ _ st' (Heap.SameBut.update ..))⟩)
theorem dv_end {it d : Addr} {o : Obj} {es : Array DictEntry} {i ep : Nat} {Q : Option Value → Shared → Prop} (hh : A.handled = none) (hit : s.heap.IsValIter it d i es.size ep) (hod : s.heap.get? d = some o) (hdd : o.data = .dict es ep) (he : es.size ≤ i)
    (hQ : ∀ h', Heap.ExtBut it s.heap h' → Q none { s with heap := h' }) : wpAny (model prog w) A (pyNext (.ref it)) Q E s := by
  obtain ⟨oi, ho, hc, hd⟩ := id hit
  unfold pyNext; refine wpAny_bind (wpAny_attempt (wpAny_callSpecial?_slot (name := Str.ofString "__next__") hit.typeIs PySem.F.slot_dict_valueiterator_next (wpAny_call_entry PySem.F.slot_dict_valueiterator_next hit.typeIs PySem.F.entry_dict_valueiterator_next ?_ (PySem.F.args_dict_valueiterator_next_1 _))))
  refine wpAny_bind (wpAny_pure ?_); refine wpAny_bind ?_; refine wpAny_bind ?_
  first | refine wpAny_bind (wpAny_typeNameOfWhole_valiter hit.typeIs (wpAny_pure ?_)); skip | refine wpAny_bind (wpAny_typeNameOf_valiter hit.typeIs (wpAny_pure ?_)); skip
  refine wpAny_bind (wpAny_fieldsOf ho hd ?_); have hown : Builtin.Dict_items.ownsTuple "dict_valueiterator" = false := by decide
  simp only [hown, Bool.false_eq_true, if_false]; show wpAny _ _ (if (Value.ref d == Value.none) = true then _ else _) _ _ s
  rw [if_neg (show ¬ ((Value.ref d == Value.none) = true) from Bool.false_ne_true)]; refine wpAny_bind (wpAny_pure ?_)
  refine wpAny_bind (wpAny_dictEntries hod hdd ?_); rw [if_neg (by simp)]
  refine wpAny_bind (wpAny_pure ?_); refine wpAny_bind (wpAny_dictEpoch hod hdd ?_); rw [if_neg (by simp)]; refine wpAny_pure ?_
  simp only [show ¬ ((i : Int) < 0) from by omega, if_false, Int.toNat_natCast, Array.getElem?_eq_none he]; refine wpAny_bind ?_
  first | refine wpAny_bind (wpAny_typeNameOfWhole_valiter hit.typeIs (wpAny_pure ?_)); skip | refine wpAny_bind (wpAny_typeNameOf_valiter hit.typeIs (wpAny_pure ?_)); skip
  show wpAny _ _ (setField (.ref it) 0 .none >>= _) _ _ s; refine wpAny_bind (wpAny_setField ho hd (by simp) ?_)
  show wpAny _ _ (newExc (.type "StopIteration") [] >>= _) _ _ _; refine wpAny_bind ?_; simp only [newExc, newTuple]
  refine wpAny_bind (wpAny_newObj_type ?_ (by size_fits)); refine wpAny_bind (m := firstArgMember _ _) (wpAny_of_eq (a := Value.none) (by first | rfl | (simp only [firstArgMember]; rfl)) ?_)
  refine wpAny_newObj_type ?_ (by size_fits); simp only [raiseNew]; refine wpAny_bind (wpAny_handled ?_); rw [show A.in1.handled = none from hh]
  refine wpAny_bind (wpAny_pure (wpAny_throw ?_)); refine wpAny_bind (wpAny_isInstance (T := "StopIteration") (b := true) ⟨_, Heap.get?_push_size _ rfl, rfl⟩ isSubtype_stop ?_)
  exact wpAny_pure (hQ _ (((Heap.SameBut.update ..).extBut.push _).push _))
theorem walk_vals (hh : A.handled = none) (I d : Addr) (hne : d ≠ I) {o : Obj} {es : Array DictEntry} {ep : Nat} (hdat : o.data = .dict es ep) :
    Walks prog w A I [I, d] [I] es.size (fun i v => ∃ e, es[i]? = some e ∧ v = e.val) (fun i h => h.IsValIter I d i es.size ep ∧ h.get? d = some o) where
  sub := fun b hb => by simp at hb; simp [hb]
  frame := fun _ _ _ st hk => ⟨st.1.at fun o e => hk I (by simp) o e, hk d (by simp) _ st.2⟩
  item := fun i s Q E hi st hQ => dv_item st.1 st.2 hdat (Array.getElem?_eq_getElem hi) fun h' hit' hs' => hQ _ h' s.toks ⟨_, Array.getElem?_eq_getElem hi, rfl⟩ ⟨hit', hs'.extBut d _ hne st.2⟩ fun b o hb e => hs'.extBut b o (fun h => hb (by simp [h])) e
  done := fun s Q E st hQ => dv_end hh st.1 st.2 hdat (Nat.le_refl _) fun h' he' => hQ h' s.toks fun b o hb e => he' b o (fun h => hb (by simp [h])) e
  self := fun _ _ _ _ st hQ => wpAny_pyIter_valiter st.1 hQ
theorem pre_sum (ns : List Int) : ∀ k, k ≤ ns.length → preSum (fun i => ns.getD i 0) k = (ns.take k).sum
  | 0, _ => by simp [preSum]
  | k + 1, h => by
    have hk : k < ns.length := by omega
    have g : ns.getD k 0 = ns[k] := by simp [List.getD, hk]
    rw [preSum, pre_sum ns k (by omega), List.take_add_one, List.getElem?_eq_getElem hk, List.sum_append]
    show _ + ns.getD k 0 = _ + [ns[k]].sum
    rw [g]
    simp
end
theorem paired_get {α β : Type} {R : α → β → Prop} : ∀ {xs : List α} {ys : List β} {i : Nat} {x : α}, Paired R xs ys → xs[i]? = some x → ∃ y, ys[i]? = some y ∧ R x y
  | _, _, i, x, .nil, h => by simp at h
  | _, _, 0, x, .cons r _, h => by simp at h; subst h; exact ⟨_, rfl, r⟩
  | _, _, i + 1, x, .cons _ t, h => by simp at h; obtain ⟨y, e, r⟩ := paired_get t h; exact ⟨y, by simpa using e, r⟩
/-- the keys of the dict at d, which stays as it is -/
def Itk (d : Addr) (o : Obj) (kvs : List (List Key × V)) : It :=
  ⟨fun i H => H d = some (.frz o (.dT kvs)) ∧ i < kvs.length, fun i H x H' => H' = H ∧ ∃ b k v, x = .ref b ∧ kvs[i]? = some (k, v) ∧ H b = some (.tup (k.map kV)), fun i H => H d = some (.frz o (.dT kvs)) ∧ kvs.length ≤ i⟩
def iDict (td : TE) : TI := fun σ H R => td σ H fun x H1 => ∃ (d : Addr) (kvs : List (List Key × V)), x = .ref d ∧ Rd H1 d (.dT kvs) ∧ ∀ (o : Obj) (H2 : Hp), H2 d = some (.frz o (.dT kvs)) → (∀ b, b ≠ d → H2 b = H1 b) → R (Itk d o kvs) H2
theorem turn_dict {P : Program} {w : World} {K : PySem.W.Frag} {tg : Expr} (d it : Addr) (o : Obj) (kvs : List (List Key × V)) (ep : Nat) (hep : ∀ es' ep', o.data = .dict es' ep' → ep' = ep) : Turn P w K tg (Itk d o kvs) [it] it (fun i h => h.IsKeyIter it d i kvs.length ep) where
  mem := by simp
  obj := fun i h st b hb => by
    have e : b = it := by simpa using hb
    subst e; obtain ⟨o, e, c, d⟩ := st; exact ⟨o, e, fun v z => by rw [d] at z; cases z⟩
  keep := fun i h h' st k => st.at fun o e => k it (by simp) o e
  item := by
    intro X hP hw hK hc i pins s σ H E I hf st hg
    subst hP hw hK
    obtain ⟨hq, hi⟩ := hg
    obtain ⟨ho, z, y, xs, rel, o', es, ep', h1, h2, h3, h4, h5⟩ := (show ObjOk X.prog X.w H s.heap d (.frz o (.dT kvs)) from I.hok d _ hq)
    obtain rfl : o = o' := Option.some.inj (ho.symm.trans h1)
    obtain rfl : ep' = ep := hep _ _ h3
    have hx : kvs[i]? = some kvs[i] := List.getElem?_eq_getElem hi
    obtain ⟨q, hq1, e1, e2, e3⟩ := paired_get rel hx
    have hsz : es.size = kvs.length := by rw [← Array.length_toList, h4, List.length_map, ← Paired.length rel]
    have he : es[i]? = some (entryOfKey (tupleKind (mixKind X.prog X.w)) q) := by rw [← Array.getElem?_toList, h4, List.getElem?_map, hq1]; rfl
    obtain ⟨f0, f1, f2, f3, f4, f5⟩ := hf it (by simp)
    rw [← hsz] at st
    refine dit_item st ho h3 he fun h' st' sb => ?_
    have I1 : Inv X pins σ H { s with heap := h' } := I.turned (t' := s.toks) (fun b o hb e => (sb.2 b hb).trans e) f0 f1 f3 f4 f5
    obtain ⟨oo, e, c, d'⟩ := id st'
    rw [hsz] at st'
    exact ⟨_, rfl, go_of (s := { s with heap := h' }) e c d' (by decide) ⟨.ref q.2.1, H, I1, rfl, ⟨rfl, q.2.1, kvs[i].1, kvs[i].2, rfl, hx, e2⟩, st', fun b hb => (hf b hb).1⟩⟩
  done := by
    intro X hP hw hK hc i pins s σ H E I hf st hg
    subst hP hw hK
    obtain ⟨hq, hi⟩ := hg
    obtain ⟨ho, z, y, xs, rel, o', es, ep', h1, h2, h3, h4, h5⟩ := (show ObjOk X.prog X.w H s.heap d (.frz o (.dT kvs)) from I.hok d _ hq)
    obtain rfl : o = o' := Option.some.inj (ho.symm.trans h1)
    obtain rfl : ep' = ep := hep _ _ h3
    have hsz : es.size = kvs.length := by rw [← Array.length_toList, h4, List.length_map, ← Paired.length rel]
    obtain ⟨f0, f1, f2, f3, f4, f5⟩ := hf it (by simp)
    rw [← hsz] at st
    exact dit_end (I.ok.hd hc) st ho h3 (by omega) fun h' eb => ⟨rfl, I.turned (t' := s.toks) (fun b o hb e => eb b o hb e) f0 f1 f3 f4 f5⟩
  self := fun _ _ _ _ _ st h => wpAny_pyIter_keyiter st h
section
variable {X : Cx} {tg : Expr}
theorem dt_keep {P : Program} {w : World} {H H' : Hp} {h : Heap} {d : Addr} {kvs : List (List Key × V)} (q : ObjOk P w H h d (.dT kvs)) (k : ∀ b ys, H b = some (.tup ys) → H' b = some (.tup ys)) : ObjOk P w H' h d (.dT kvs) := by
  obtain ⟨z, y, xs, rel, r⟩ := q
  exact ⟨z, y, xs, KT.keeps rel fun c ys ec => k c ys ec, r⟩
theorem pi_dict {l : Expr} {tl : TE} (hl : PE X l tl) : PI X tg l (iDict tl) := by
  intro pins s σ H R I h
  refine thn (hl pins s σ H _ I h) fun v s1 ⟨x, H1, I1, r1, q1⟩ => ?_
  obtain ⟨d, kvs, rfl, hq, q⟩ := q1
  cases r1
  have hob : ObjOk X.prog X.w H1 s1.heap d (.dT kvs) := rd_of I1.hok hq
  obtain ⟨z, y, xs, rel, o, es, ep, h1, h2, h3, h4, h5⟩ := id hob
  have hsz : es.size = kvs.length := by rw [← Array.length_toList, h4, List.length_map, ← Paired.length rel]
  obtain ⟨H2, I2, e2, k2⟩ : ∃ H2, Inv X pins σ H2 s1 ∧ H2 d = some (.frz o (.dT kvs)) ∧ ∀ b, b ≠ d → H2 b = H1 b := by
    rcases hq with hq | ⟨o', hq⟩
    · exact ⟨_, d_write (t' := s1.toks) I1 (by rw [hq]; exact True.intro) (Heap.SameBut.refl _ _) ⟨o, h1⟩ (show ObjOk X.prog X.w (upd H1 d (.frz o (.dT kvs))) s1.heap d (.frz o (.dT kvs)) from ⟨h1, dt_keep hob fun b ys e => by rw [upd_ne (ne_of e hq (fun z => nomatch z))]; exact e⟩), upd_same, fun b hb => upd_ne hb⟩
    · obtain ⟨ho', _⟩ := (show ObjOk X.prog X.w H1 s1.heap d (.frz o' (.dT kvs)) from I1.hok d _ hq)
      obtain rfl : o' = o := Option.some.inj (ho'.symm.trans h1)
      exact ⟨H1, I1, hq, fun _ _ => rfl⟩
  refine dit_iter y h1 h2 h3 ?_
  rw [hsz]
  refine ⟨s1.heap.objs.size, [s1.heap.objs.size], _, _, _, rfl, I2.kept (t' := s1.toks) fun b o e => Heap.get?_push_of_some _ e, turn_dict d _ o kvs ep (fun es' ep' e => by rw [h3] at e; cases e; rfl), ⟨_, Heap.get?_push_size _ rfl, rfl, rfl⟩, fun b hb => ?_, q o H2 e2 k2⟩
  have e : b = s1.heap.objs.size := by simpa using hb
  subst e
  exact I2.fpOk (Nat.le_refl _) (I2.hok.fresh (Nat.le_refl _))
/-- a loop over the keys of a dict -/
theorem for_dict {d : Addr} {o : Obj} {kvs : List (List Key × V)} {g : TG} {tb : TS} {D : Ends} {σ : St} {H : Hp} (Pv : Nat → St → Hp → Prop) (h0 : Pv 0 σ H) (hl : ∀ i σ H, i ≤ kvs.length → Pv i σ H → H d = some (.frz o (.dT kvs)))
    (hs : ∀ i k v b σ H, kvs[i]? = some (k, v) → Pv i σ H → H b = some (.tup (k.map kV)) → g (.ref b) σ H fun σ2 H2 => tb { D with nx := Pv (i + 1), ct := Pv (i + 1), bk := D.nx } σ2 H2) (hd : ∀ σ H, Pv kvs.length σ H → D.nx σ H) :
    ∃ W : Nat → Nat → St → Hp → Prop, (∃ m, W 0 m σ H) ∧ ∀ i m σ H, W i m σ H →
      ((Itk d o kvs).stop i H ∧ D.nx σ H) ∨ ((Itk d o kvs).go i H ∧ ∃ N : St → Hp → Prop, (∀ σ' H', N σ' H' → ∃ m', m' < m ∧ W (i + 1) m' σ' H') ∧ ∀ x H', (Itk d o kvs).yld i H x H' → g x σ H' fun σ2 H2 => tb { D with nx := N, ct := N, bk := D.nx } σ2 H2) := by
  refine ⟨fun i m σ H => m = kvs.length - i ∧ i ≤ kvs.length ∧ Pv i σ H, ⟨kvs.length, by simp, Nat.zero_le _, h0⟩, ?_⟩
  rintro i m σ H ⟨rfl, hi, p⟩
  have q := hl i σ H hi p
  by_cases hlt : i < kvs.length
  · refine .inr ⟨⟨q, hlt⟩, Pv (i + 1), fun σ' H' p' => ⟨kvs.length - (i + 1), by omega, rfl, hlt, p'⟩, ?_⟩
    rintro x H' ⟨rfl, b, k, v, rfl, e, hb⟩
    exact hs i k v b σ _ e p hb
  · obtain rfl : i = kvs.length := by omega
    exact .inl ⟨⟨q, Nat.le_refl _⟩, hd σ H p⟩
/-- {k: v}, k a tuple -/
def tDisp1 (tk tv : TE) : TE := fun σ H Q => ∀ p, H p = none → tk σ (upd H p (.dT [])) fun x H1 => tv σ H1 fun y H2 => H2 p = some (.dT []) ∧ ∃ k b, x = .ref b ∧ H2 b = some (.tup (k.map kV)) ∧ Q (.ref p) (upd H2 p (.dT (putK [] k y)))
theorem pe_disp1 {ek ev : Expr} {tk tv : TE} {pos : Pos} (hu : X.A.units + 1 < cLine) (hk : PE X ek tk) (hv : PE X ev tv) : PE X (.Dict [some ek] [ev] pos) (tDisp1 tk tv) := by
  intro pins s σ H Q I q
  have hn := I.hok.fresh (Nat.le_refl s.heap.objs.size)
  have I1 := I.laid (a := s.heap.objs.size) (o := .dT []) (h' := s.heap.push { cls := .type "dict", data := .dict #[] }) (t' := s.toks) (fun _ _ q => Heap.get?_push_of_some _ q) (Nat.le_refl _) (dt_empty s.heap I.big)
  rw [arm_eval_Dict, zip_pairTrees [some ek] [ev] X.env pos rfl rfl, dictDisplay_pairs (pairTrees [some ek] [ev] X.env pos) (by intro z; cases z) (show 1 < 17 by decide)]
  refine wpAny_bind (wpAny_standAt (wpAny_bind ?_)); unfold subDict
  refine wpAny_bind (wpAny_alloc ?_); refine wpAny_bind (wpAny_holding ?_); rw [if_pos (show (pairTrees [some ek] [ev] X.env pos).length ≤ 15 from (by decide : 1 ≤ 15))]
  refine wpAny_bind (pairTrees_cons_walk (thn (hk pins _ σ _ _ I1 (q _ hn)) fun u s1 ⟨x, H1, I2, rx, q1⟩ => thn (hv pins s1 σ H1 _ I2 q1) fun w2 s2 ⟨y, H2, I3, ry, e, k, b, ex, eb, q2⟩ => pairTrees_nil_walk ?_))
  subst ex
  cases (show u = Value.ref b from rx)
  obtain ⟨z, hd, xs, rel, dd⟩ := dt_of I3.hok e
  cases rel
  refine wpAny_holding (wpAny_bind ?_); rw [List.forIn_cons]; dsimp only
  refine wpAny_bind (wpAny_bind (wpAny_dictSet_heap (knd := tupleKind (mixKind X.prog X.w)) (show X.A.units < cLine by omega) (key_of I3.hok eb) dd (fun h' dd' hs => wpAny_pure ?_) (Nat.zero_le _)))
  dsimp only; rw [List.forIn_nil]; refine wpAny_pure (wpAny_pure (wpAny_pure (wpAny_pure ?_)))
  obtain ⟨o, es, ep, hq, h2, h3, h4, _, h5⟩ := dd'
  refine ⟨.ref s.heap.objs.size, _, d_write I3 (by rw [e]; exact True.intro) hs ⟨o, hq⟩ (show ObjOk X.prog X.w (upd H2 s.heap.objs.size (.dT (putK [] k y))) h' s.heap.objs.size (.dT (putK [] k y)) from ⟨(by show 1 ≤ sizeLine; decide), hd, _, KT.keeps (KT.put .nil k eb ry) fun c ys ec => ?_, o, es, ep, hq, h2, h3, h4, h5⟩), rfl, q2⟩
  rw [upd_ne (ne_of ec e (fun z => nomatch z))]
  exact ec
/-- sum(d.values()) of ints -/
def tSumV (td : TE) : TE := fun σ H Q => td σ H fun x H1 => ∃ (d : Addr) (kvs : List (List Key × V)) (ns : List Int), x = .ref d ∧ Rd H1 d (.dT kvs) ∧ kvs.map (·.2) = ns.map V.int ∧ Q (.int ns.sum) H1
theorem pe_sumv {e : Expr} {td : TE} {p apos cpos pos : Pos} (hc : X.calm = true) (hg : Gl X "sum") (hm : X.mg "sum" = none) (he : PE X e td)
    (he2 : starEach [Expr.Call (.Attribute e "values" apos) [] [] cpos] X.env = (false, eval (Expr.Call (.Attribute e "values" apos) [] [] cpos) X.env) :: starEach [] X.env := by rfl)
    (hbase : attributeBase e "values" X.env (eval e X.env) = eval e X.env := by rfl) (hline : (apos.endLine == cpos.line) = true := by rfl) :
    PE X (.Call (.Name "sum" p) [.Call (.Attribute e "values" apos) [] [] cpos] [] pos) (tSumV td) := by
  intro pins s σ H Q I h
  refine wpAny_Call_Name_kw (ld_blt I hg hm (by first | exact boot_sum | rfl | decide +kernel) ?_ (by decide) (by decide)); refine PyProof.Rows.callWith_builtin1 ?_ he2 (by rfl); rw [he2]
  show wpAny _ _ (spliced ((false, eval (Expr.Call (.Attribute e "values" apos) [] [] cpos) X.env) :: backTo pos (starEach [] X.env))) _ _ s; refine Calls.spliced_cons ?_
  refine wpAny_Call_method0_late hbase hline (thn (he pins s σ H _ I h) fun v s1 ⟨x, H1, I1, r1, q1⟩ => ?_)
  obtain ⟨d, kvs, ns, rfl, hrd, hns, q⟩ := q1
  cases r1
  obtain ⟨hT, hdi, hsys⟩ := isD_at I1 (.inr ⟨kvs, hrd⟩)
  obtain ⟨z, y, xs, rel, o, es, ep, h1, h2, h3, h4, h5⟩ := (show ObjOk X.prog X.w H1 s1.heap d (.dT kvs) from rd_of I1.hok hrd)
  refine ⟨"dict", "dict.values", PySem.F.plainAttrs_dict, PySem.F.slot_dict_values, PySem.F.type_dict_values, hT, hdi, Calls.callWith_builtin rfl (PySem.evalArgs_none (dv_call hsys h1 h2 (wpAny_pure ?_)))⟩
  show wpAny _ _ (call (.builtin "sum") [.ref s1.heap.objs.size]) _ _ _
  have h1' : (s1.heap.push { cls := .type "dict_values", data := .fields #[.ref d] }).get? d = some o := Heap.get?_push_of_some _ h1
  have hdl : d < s1.heap.objs.size := Heap.lt_size h1
  have hsz : es.size = kvs.length := by rw [← Array.length_toList, h4, List.length_map, ← Paired.length rel]
  have hnl : ns.length = kvs.length := by have := congrArg List.length hns; simpa using this.symm
  refine call_sum_walkAnyS (dv_iter (s := { s1 with heap := s1.heap.push { cls := .type "dict_values", data := .fields #[.ref d] } }) ⟨_, Heap.get?_push_size _ rfl, rfl, rfl⟩ h1' h3 ?_)
  refine ⟨_, _, _, _, _, _, _, fun i => ns.getD i 0, rfl, (walk_vals (A := X.A.in1) (I.ok.hd hc) (s1.heap.push { cls := .type "dict_values", data := .fields #[.ref d] }).objs.size d (by rw [Heap.size_push]; exact Nat.ne_of_lt (Nat.lt_succ_of_lt hdl)) h3).toS, ⟨⟨_, Heap.get?_push_size _ rfl, rfl, rfl⟩, Heap.get?_push_of_some _ h1'⟩, ?_, ?_, ?_⟩
  · intro b hb
    simp only [List.mem_cons, List.not_mem_nil, or_false] at hb
    rcases hb with rfl | rfl
    · show _ < (Heap.push (s1.heap.push _) _).objs.size
      rw [Heap.size_push (s1.heap.push _)]; exact Nat.lt_succ_self _
    · show _ < (Heap.push (s1.heap.push _) _).objs.size
      rw [Heap.size_push, Heap.size_push]; exact Nat.lt_succ_of_lt (Nat.lt_succ_of_lt hdl)
  · rintro i v ⟨e, hei, rfl⟩
    rw [← Array.getElem?_toList, h4, List.getElem?_map] at hei
    obtain ⟨q', hq', rfl⟩ := Option.map_eq_some_iff.mp hei
    have hi : i < kvs.length := by rw [Paired.length rel]; exact (List.getElem?_eq_some_iff.mp hq').1
    obtain ⟨q2, hq2, e1, e2, e3⟩ := paired_get rel (List.getElem?_eq_getElem hi)
    rw [hq'] at hq2
    cases hq2
    have : kvs[i].2 = V.int (ns.getD i 0) := by
      have z1 : (kvs.map (·.2))[i]? = some kvs[i].2 := by rw [List.getElem?_map, List.getElem?_eq_getElem hi]; rfl
      rw [hns, List.getElem?_map, List.getElem?_eq_getElem (by omega)] at z1
      simp only [Option.map_some, Option.some.injEq] at z1
      rw [← z1, List.getD_eq_getElem?_getD, List.getElem?_eq_getElem (by omega)]
      rfl
    rw [this] at e3
    exact e3
  · intro s' t' hm'
    obtain ⟨h', g', d', tk', os'⟩ := s'
    have eg : g' = s1.gens := hm'.gens
    have ed : d' = s1.drawn := hm'.drawn
    have eo : os' = s1.os := hm'.os
    subst eg; subst ed; subst eo
    have es : preSum (fun i => ns.getD i 0) es.size = ns.sum := by rw [hsz, ← hnl, pre_sum ns ns.length (Nat.le_refl _), List.take_length]
    rw [es]
    refine ⟨.int ns.sum, H1, I1.kept fun b o e => hm'.heap b o (fun hb => ?_) (Heap.get?_push_of_some _ (Heap.get?_push_of_some _ e)), ⟨t', rfl⟩, q⟩
    simp only [List.mem_cons, List.not_mem_nil, or_false] at hb
    have := Heap.lt_size e
    rw [hb, Heap.size_push] at this
    exact absurd this (Nat.not_lt.mpr (Nat.le_succ _))
end
end L2
/-! ### tuples cut and joined, told by contents; what keeps lists and tuples -/
namespace L2
open PySem PySem.Spec PyProof.Rows
section
variable {X : Cx}
theorem op_catA : OpR X (binaryOp .Add) (fun x y H Q => ∃ xs ys, Is H (.t xs) x ∧ Is H (.t ys) y ∧ xs.length + ys.length ≤ sizeLine ∧ ∀ v H2, Same H H2 → Is H2 (.t (xs ++ ys)) v → Q v H2) := by
  intro pins s σ H x y v u Q I rx ry h
  obtain ⟨xs, ys, hx, hy, hz, q⟩ := h
  obtain ⟨a, vs, rfl, ha, ra⟩ := of_t hx
  obtain ⟨b, ws, rfl, hb, rb⟩ := of_t hy
  have l1 := ra.length
  have l2 := rb.length
  by_cases h1 : vs = []
  · subst h1
    have hx0 : xs = [] := List.length_eq_zero_iff.mp (by rw [← l1]; rfl)
    subst hx0
    cases rx
    cases ry
    obtain ⟨its, r1, p1, _⟩ := I.tuple (SqT.of (K := X.K) ha)
    obtain ⟨its2, r2, p2, _⟩ := I.tuple (SqT.of (K := X.K) hb)
    cases r1
    obtain ⟨⟨cls, dd, data, sl⟩, ho, hc, n, hd⟩ := p1
    obtain ⟨⟨cls2, dd2, data2, sl2⟩, ho2, hc2, n2, hd2⟩ := p2
    simp only at hc hd hc2 hd2
    subst hc hd hc2 hd2
    exact concat_meets ⟨_, ho, rfl⟩ ⟨_, ho2, rfl⟩ noFill_tuple_add seq_tuple_add PySem.F.slot_tuple_add PySem.F.entry_tuple_add (PySem.F.args_tuple_add_2 _ _) (tuple_addW0 a b _ _ n n2 dd dd2 sl sl2 (by simp)) ⟨ho, ho2, ⟨.ref b, H, I, rfl, q _ H (Same.refl H) hy⟩⟩
  · refine op_catT pins s σ H (.ref a) (.ref b) v u Q I rx ry ⟨a, b, vs, ws, rfl, rfl, SqT.of ha, SqT.of hb, h1, by omega, fun e => ?_, fun _ p np => ?_⟩
    · have : ys = [] := List.length_eq_zero_iff.mp (by rw [← l2, e]; rfl)
      subst this
      exact q _ H (Same.refl H) (by rw [List.append_nil]; exact hx)
    · exact q _ _ (Same.new np) (is_t upd_same ((ra.append rb).mono (Same.new np)))
theorem sl_tupN : SlR X (fun x lo hi H Q => ∃ xs xs', Is H (.t xs) x ∧ (∀ (H' : Hp) (vs : List V), Iss H' xs vs → Iss H' xs' (cutV vs lo hi)) ∧ (∀ vs : List V, vs.length = xs.length → (HT.sIx vs.length 0 lo = 0 ∧ HT.sIx vs.length vs.length hi = vs.length) → xs' = xs) ∧ ∀ v H2, Same H H2 → Is H2 (.t xs') v → Q v H2) := by
  intro pins s σ H x v vl vu lo hi sl Q I rx hs pl pu h
  obtain ⟨xs, xs', hx, hc, hw, q⟩ := h
  obtain ⟨a, vs, rfl, ha, ra⟩ := of_t hx
  refine sl_tupA pins s σ H (.ref a) v vl vu lo hi sl Q I rx hs pl pu ⟨a, vs, rfl, SqT.of ha, fun e => ?_, fun e p np => ?_⟩
  · have := hw vs ra.length e
    subst this
    exact q _ H (Same.refl H) hx
  · exact q _ _ (Same.new np) (is_t upd_same ((hc _ _ ra).mono (Same.new np)))
end
/-- the lists and the tuples stay -/
def LTS (H H' : Hp) : Prop := (∀ b xs, H b = some (.lst xs) → H' b = some (.lst xs)) ∧ ∀ b xs, H b = some (.tup xs) → H' b = some (.tup xs)
/-- a dict is written -/
theorem LTS.dict {H : Hp} {d : Addr} {kvs : List (List Key × V)} {o : HO} (h : H d = some (.dT kvs)) : LTS H (upd H d o) :=
  ⟨fun b xs e => by rw [upd_ne (by rintro rfl; rw [h] at e; cases e)]; exact e, fun b xs e => by rw [upd_ne (by rintro rfl; rw [h] at e; cases e)]; exact e⟩
theorem LTS.rd {H H' : Hp} {d : Addr} {kvs : List (List Key × V)} (h : Rd H d (.dT kvs)) (k : ∀ b, b ≠ d → H' b = H b) : LTS H H' := by
  have nd : ∀ b o, H b = some o → (∀ kvs, o ≠ .dT kvs) → (∀ ob u, o ≠ .frz ob u) → b ≠ d := by
    rintro b o e n1 n2 rfl
    rcases h with h | ⟨ob, h⟩
    · rw [h] at e; cases e; exact n1 _ rfl
    · rw [h] at e; cases e; exact n2 _ _ rfl
  exact ⟨fun b xs e => by rw [k b (nd b _ e (fun _ z => nomatch z) fun _ _ z => nomatch z)]; exact e, fun b xs e => by rw [k b (nd b _ e (fun _ z => nomatch z) fun _ _ z => nomatch z)]; exact e⟩
mutual
theorem Is.lts {H H' : Hp} (s : LTS H H') : ∀ {d : D} {v : V}, Is H d v → Is H' d v
  | .i _, _, h => by rw [of_i h]; exact is_i
  | .l xs, _, h => by
    obtain ⟨a, vs, e, q, r⟩ := of_l h
    rw [e]
    exact is_l (s.1 _ _ q) (Iss.lts s r)
  | .t xs, _, h => by
    obtain ⟨a, vs, e, q, r⟩ := of_t h
    rw [e]
    exact is_t (s.2 _ _ q) (Iss.lts s r)
theorem Iss.lts {H H' : Hp} (s : LTS H H') : ∀ {xs : List D} {vs : List V}, Iss H xs vs → Iss H' xs vs
  | [], _, h => by rw [of_nil h]; exact iss_nil
  | x :: xs, _, h => by
    obtain ⟨u, us, e, q, r⟩ := of_cons h
    rw [e]
    exact iss_cons (Is.lts s q) (Iss.lts s r)
end
end L2
/-! ### sorted(set(xs)) of a long list of few different tuples -/
namespace L2
open PySem PySem.SetTable PySem.Spec PyProof.Rows
theorem nodup_in {α : Type} [DecidableEq α] : ∀ {xs F : List α}, xs.Nodup → (∀ x ∈ xs, x ∈ F) → xs.length ≤ F.length
  | [], _, _, _ => Nat.zero_le _
  | x :: xs, F, nd, h => by
    obtain ⟨n1, n2⟩ := List.nodup_cons.mp nd
    have hx := h x (by simp)
    have := nodup_in (F := F.erase x) n2 fun y hy => (List.mem_erase_of_ne (by rintro rfl; exact n1 hy)).mpr (h y (by simp [hy]))
    rw [List.length_erase_of_mem hx] at this
    have : 0 < F.length := List.length_pos_of_mem hx
    rw [List.length_cons]
    omega
theorem made_le {prog : Program} {w : World} {h : Heap} {kk : Nat → List Int} {ad : Nat → Addr} {i : Nat} {es : Array (Int × Value)} (en : Ent prog w h es) (mk : Made prog w kk ad i es) (hkk : ∀ j, j < i → IsTupleKey (intKind prog w) h (kk j) (ad j))
    (hb : ∃ F : List (List Int), F.length < 60 ∧ ∀ j, j < i → kk j ∈ F) : es.size < 60 := by
  obtain ⟨F, hF, hin⟩ := hb
  obtain ⟨js, ev, lt, nd, _⟩ := set_told en mk hkk (List.Perm.refl _)
  have := nodup_in nd (F := F) fun z hz => by
    obtain ⟨j, hj, rfl⟩ := List.mem_map.mp hz
    exact hin j (lt j hj)
  have e := congrArg List.length ev
  rw [List.length_map, List.length_map, Array.length_toList] at e
  rw [List.length_map] at this
  omega
section
variable {prog : Program} {w : World} {A : Around} {E : Value → Shared → Prop} {s : Shared}
theorem upd_loopW {R : Result → Shared → Prop} {I : Addr} {fp wr : List Addr} {G : Array GenState → Array GenState → Prop} {n : Nat} {P : Nat → Value → Prop} {St : Nat → Shared → Prop}
    (W : WalksS prog w A.in1 I fp wr G n P St) (S : Addr) (hSf : S ∉ fp) (hu : A.in1.units < cLine) (led : Bool)
    (kk : Nat → List Int) (ad : Nat → Addr) (hval : ∀ i v, P i v → v = .ref (ad i)) (hwr : ∀ i, i < n → ad i ∉ wr) (hb : ∃ F : List (List Int), F.length < 60 ∧ ∀ i, i < n → kk i ∈ F) :
    ∀ (k i : Nat) (s : Shared) (es : Array (Int × Value)), n - i = k → i ≤ n → St i s → SetT s.heap S led es → Ent prog w s.heap es → Made prog w kk ad i es → (∀ j, j < n → IsTupleKey (intKind prog w) s.heap (kk j) (ad j)) →
      (∀ s' es', Moved (S :: wr) G s s' → SetT s'.heap S led es' → Ent prog w s'.heap es' → Made prog w kk ad n es' → R (.ok (.ret .none)) s') →
      codeAny (model prog w) A (.builtin "set.update.loop" ⟨[.ref S, .ref I], []⟩) R s := by
  have hSw : S ∉ wr := fun h => hSf (W.sub _ h)
  have hsub : ∀ b ∈ wr, b ∈ S :: wr := fun b hb => List.mem_cons_of_mem _ hb
  intro k
  induction k with
  | zero =>
    intro i s es hk hi hst hS en mk hkk hR
    have hin : i = n := by omega
    subst hin
    refine codeAny_builtin F.entry_set_update_loop ?_
    rw [Around.under_plainId F.plain_set_update_loop _]
    show wpAny _ A.in1 (pyNext (.ref I) >>= _) _ _ s
    refine wpAny_bind (W.done s _ _ hst fun s' hm => ?_)
    show wpAny _ A.in1 (ret Value.none) _ _ s'
    refine wpAny_pure (hR s' es (hm.mono hsub) (hS.mv fun o e => hm.heap S o hSw e) (en.mv fun p k g x e q => key_mv q fun o e' => ?_) mk)
    obtain ⟨j, hj, ev⟩ := mk.from_ p _ e
    simp only [Prod.mk.injEq, Value.ref.injEq] at ev
    obtain ⟨_, rfl⟩ := ev
    exact hm.heap _ o (hwr j hj) e'
  | succ k ih =>
    intro i s es hk hi hst hS en mk hkk hR
    have hlt : i < n := by omega
    refine codeAny_builtin F.entry_set_update_loop ?_
    rw [Around.under_plainId F.plain_set_update_loop _]
    show wpAny _ A.in1 (pyNext (.ref I) >>= _) _ _ s
    refine wpAny_bind (W.item i s _ _ hlt hst fun v s' hP hst' hm => ?_)
    obtain rfl := hval i v hP
    have hS' : SetT s'.heap S led es := hS.mv fun o e => hm.heap S o hSw e
    have hkk' : ∀ j, j < n → IsTupleKey (intKind prog w) s'.heap (kk j) (ad j) := fun j hj => key_mv (hkk j hj) fun o e => hm.heap _ o (hwr j hj) e
    have en' : Ent prog w s'.heap es := en.mv fun p k g x e q => key_mv q fun o e' => by
      obtain ⟨j, hj, ev⟩ := mk.from_ p _ e
      simp only [Prod.mk.injEq, Value.ref.injEq] at ev
      obtain ⟨_, rfl⟩ := ev
      exact hm.heap _ o (hwr j (by omega)) e'
    show wpAny _ A.in1 (holding [Value.ref (ad i)] (setAdd S (.ref (ad i))) >>= _) _ _ s'
    refine wpAny_bind (wpAny_holding ?_)
    unfold setAdd
    refine wpAny_holding ?_
    refine wpAny_bind (wpAny_pyHash_tuple hu (hkk' i hlt) ?_)
    refine add_tup (s := { s' with toks := s'.toks + ((kk i).length + 1) }) hS' en' (hkk' i hlt) hu (by have := made_le en' mk (fun j hj => hkk' j (by omega)) (hb.imp fun F hF => ⟨hF.1, fun j hj => hF.2 j (by omega)⟩); omega) fun b h' es' hsb hS2 en2 c => ?_
    have hkS : ∀ j, j < n → ad j ≠ S := by
      intro j hj e
      obtain ⟨o, items, m, ho, _, hd, _⟩ := hkk' j hj
      obtain ⟨ep, t, ho', _⟩ := hS'
      rw [e, ho', Option.some.injEq] at ho
      subst ho
      exact nomatch hd
    refine wpAny_pure ⟨plainId_quiet F.plain_set_update_loop _, ih (i + 1) _ es' (by omega) hlt (W.frame _ s' _ _ hst' (Nat.le_add_right _ _) fun b hb o e => ?_) hS2 en2 (mk.step en' (fun j hj => hkk' j (by omega)) c) (fun j hj => key_mv (hkk' j hj) fun o e => ?_) fun s'' es'' hm'' hS'' en'' mk'' => ?_⟩
    · rw [hsb.2 b (fun h : b = S => hSf (by rw [← h]; exact hb))]; exact e
    · show h'.get? _ = _
      rw [hsb.2 _ (hkS j hj)]; exact e
    · refine hR s'' es'' (Moved.trans W.gtrans ((hm.mono hsub).then_heap (Nat.le_add_right _ _) fun b o hb e => ?_) hm'') hS'' en'' mk''
      rw [hsb.2 b (fun h : b = S => hb (by rw [h]; exact List.mem_cons_self))]; exact e
set_option maxHeartbeats 3200000 in
theorem call_set_tupW {l : Addr} {items : Array Value} {kk : Nat → List Int} {ad : Nat → Addr} {Q : Value → Shared → Prop}
    (hh : A.handled = none) (hu : A.units + 8 < cLine) (hl : s.heap.IsList l items) (hn : ∃ F : List (List Int), F.length < 60 ∧ ∀ i, i < items.size → kk i ∈ F)
    (hk : ∀ i, i < items.size → items[i]? = some (.ref (ad i)) ∧ IsTupleKey (intKind prog w) s.heap (kk i) (ad i))
    (h : ∀ (h' : Heap) (tk : Nat) (es : Array (Int × Value)), SetT h' s.heap.objs.size (!w.params.followText "set-order") es → Ent prog w h' es → Made prog w kk ad items.size es →
      (∀ b o, b < s.heap.objs.size → s.heap.get? b = some o → h'.get? b = some o) → Q (.ref s.heap.objs.size) { s with heap := h', toks := tk }) :
    wpAny (model prog w) A (call (.type "set") [.ref l]) Q E s := by
  obtain ⟨c, tl, hmro⟩ := F.called_set.mro
  have hmade := F.called_set.made
  have hsub := F.called_set.sub
  refine wpAny_call (codeAny_of_tree ?_)
  show wpAny _ _ (callAny (.type "set") _) _ _ _
  refine wpAny_pure ⟨Code.quiet_builtin _ (by decide +kernel), codeAny_builtin F.entry_type_call ?_⟩
  rw [Around.under_plain (weight_type_call_type "set" [.ref l] []) rfl]
  have h1 := F.called_set.notType
  have h2 := F.called_set.canCreate
  have hct := F.typeCall_set_1 (.ref l)
  repeat (any_goals (first | assumption | wp_step))
  refine codeAny_mono (new_set (.ref l) (E := E) (Q₁ := fun obj s₁ => obj = .ref s.heap.objs.size ∧ s₁ = { s with heap := s.heap.push { cls := .type "set", dict := none, data := .set #[] 0 (.fresh 0 0 (!w.params.followText "set-order")) } }) ⟨rfl, rfl⟩) fun r s₁ hr => ?_
  generalize (!w.params.followText "set-order") = led at h hr
  cases r with
  | error e => exact hr
  | ok fl =>
    cases fl with
    | ret obj =>
      obtain ⟨rfl, rfl⟩ := hr
      have hS : (s.heap.push { cls := .type "set", dict := none, data := .set #[] 0 (.fresh 0 0 led) }).get? s.heap.objs.size = some { cls := .type "set", dict := none, data := .set #[] 0 (.fresh 0 0 led) } := Heap.get?_push_size _ rfl
      have hT : Shared.TypeIs { s with heap := s.heap.push { cls := .type "set", dict := none, data := .set #[] 0 (.fresh 0 0 led) } } (.ref s.heap.objs.size) "set" := ⟨_, hS, rfl⟩
      have hli := F.called_set.init.lookup
      have hbi := F.called_set.init.bind (.ref s.heap.objs.size)
      repeat (any_goals (first | assumption | wp_step))
      refine codeAny_mono (codeAny_call_builtin (R := wants (fun r s₂ => r = .none ∧ ∃ h' tk es, s₂ = { s with heap := h', toks := tk } ∧
          SetT h' s.heap.objs.size led es ∧ Ent prog w h' es ∧ Made prog w kk ad items.size es ∧
          (∀ b o, b < s.heap.objs.size → s.heap.get? b = some o → h'.get? b = some o)) E) F.called_set.init.plain F.entry_set_init (check_set_init_1 hT ?_)) fun r₂ s₂ hr₂ => ?_
      · obtain ⟨ol, hol, hcl, nl, hdl⟩ := hl
        obtain ⟨ocls, odict, odata, oslots⟩ := ol
        simp only at hcl hdl
        subst hcl; subst hdl
        have hol' : (s.heap.push { cls := .type "set", dict := none, data := .set #[] 0 (.fresh 0 0 led) }).get? l = some { cls := .type "list", dict := odict, data := .seq items nl, slots := oslots } := Heap.get?_push_of_some _ hol
        have hsls := F.sub_list_set
        have hslf := F.sub_list_frozenset
        have hne : (Value.type "list" == Value.type "dict") = false := by decide
        have hl1 : (s.heap.push { cls := .type "set", dict := none, data := .set #[] 0 (.fresh 0 0 led) }).IsList l items := ⟨_, hol', rfl, nl, rfl⟩
        unfold Builtin.«set.__init__» noKeywords Builtin.Frozenset.updateFrom
        generalize hPI : pyIter = PI
        wp_walk
        subst hPI
        refine wpAny_pyIter_list hl1 ?_
        refine wpAny_bind (wpAny_runValue ?_)
        have hlS : l < s.heap.objs.size := Heap.lt_size hol
        have hh3 : A.in1.in1.in1.handled = none := by simp [hh]
        have hneI : l ≠ (s.heap.push { cls := .type "set", dict := none, data := .set #[] 0 (.fresh 0 0 led) }).objs.size := by
          rw [Heap.size_push]; exact Nat.ne_of_lt (Nat.lt_succ_of_lt hlS)
        have hSf : s.heap.objs.size ∉ [(s.heap.push { cls := .type "set", dict := none, data := .set #[] 0 (.fresh 0 0 led) }).objs.size, l] := by
          rw [Heap.size_push]; simp only [List.mem_cons, List.mem_singleton, List.not_mem_nil, or_false, not_or]
          exact ⟨Nat.ne_of_lt (Nat.lt_succ_self _), Nat.ne_of_gt hlS⟩
        refine upd_loopW ((Walks.list hh3 _ l hneI items).toS) s.heap.objs.size
          hSf ?hu led kk ad ?hval ?hwr hn (items.size - 0) 0 _ #[] (by omega) (Nat.zero_le _)
          ⟨⟨_, Heap.get?_push_size _ rfl, rfl, rfl⟩, (hl1.push _)⟩ ?hS0 ?hE0 ?hM0 ?hkk ?hR
        case hu => show A.units + 3 < cLine; omega
        case hval =>
          intro i v hv
          have hi : i < items.size := get_lt hv
          rw [(hk i hi).1, Option.some.injEq] at hv
          exact hv.symm
        case hwr =>
          intro i hi
          obtain ⟨o, _, _, ho, _⟩ := (hk i hi).2
          have := Heap.lt_size ho
          rw [Heap.size_push]
          simp only [List.mem_cons, List.not_mem_nil, or_false]
          exact Nat.ne_of_lt (Nat.lt_succ_of_lt this)
        case hS0 => exact ⟨_, _, Heap.get?_push_of_some _ hS, fresh_tb led, rfl, rfl, by show 0 * 5 < 7 * 3; decide⟩
        case hE0 => exact ⟨fun i hi => absurd hi (by show ¬ i < 0; omega), fun i j k b c g g' e => by simp at e⟩
        case hM0 => exact ⟨Nat.le_refl 0, fun p v e => by simp at e, fun j hj => absurd hj (by omega)⟩
        case hkk => exact fun j hj => key_mv (hk j hj).2 fun o e => Heap.get?_push_of_some _ (Heap.get?_push_of_some _ e)
        case hR =>
          intro s' es' hm hS' en' mk'
          obtain ⟨h', g', d', tk', os'⟩ := s'
          have eg : g' = s.gens := hm.gens
          have ed : d' = s.drawn := hm.drawn
          have eo : os' = s.os := hm.os
          subst eg; subst ed; subst eo
          show wpAny _ _ _ _ _ _
          refine wpAny_pure ?_
          show wpAny _ _ (ret Value.none) _ _ _
          refine wpAny_pure ⟨rfl, h', tk', es', rfl, hS', en', mk', fun b o hb e => ?_⟩
          have hb1 : b ≠ s.heap.objs.size := Nat.ne_of_lt hb
          have hb2 : b ≠ (s.heap.push { cls := .type "set", dict := none, data := .set #[] 0 (.fresh 0 0 led) }).objs.size := by
            rw [Heap.size_push]; exact Nat.ne_of_lt (Nat.lt_succ_of_lt hb)
          exact hm.heap b o (by simp only [List.mem_cons, List.mem_singleton, List.not_mem_nil, or_false, not_or]; exact ⟨hb1, hb2⟩) (Heap.get?_push_of_some _ (Heap.get?_push_of_some _ e))
      · cases r₂ with
        | error e => exact hr₂
        | ok fl₂ =>
          cases fl₂ with
          | ret r =>
            obtain ⟨rfl, h', tk, es, rfl, hS', en', mk', hk'⟩ := hr₂
            repeat (any_goals (first | assumption | wp_step))
            exact h _ _ _ hS' en' mk' hk'
          | _ => exact hr₂.elim
    | _ => exact hr.elim
end
end L2
namespace L2
open PySem PySem.SetTable PySem.Spec PyProof.Rows PySem.W
section
variable {X : Cx} {pins : List (Addr × Obj)} {σ : St} {H : Hp} {s : Shared}
def rSSetW : List V → Hp → VK → Prop := fun vs H Q => ∃ (v : V) (xss : List (List Int)) (m : Nat), vs = [v] ∧ Is H (.l (xss.map tI)) v ∧ 0 < m ∧ (∀ xs ∈ xss, xs.length = m) ∧ (∃ F : List (List Int), F.length < 60 ∧ ∀ xs ∈ xss, xs ∈ F) ∧
  ∀ (yss : List (List Int)) (q : Addr) (H' : Hp), yss.Nodup → (∀ z, z ∈ yss ↔ z ∈ xss) → (∀ i j, i < j → j < yss.length → ltI (yss.getD j []) (yss.getD i []) = false) → H q = none → Same H H' → Is H' (.l (yss.map tI)) (.ref q) → Q (.ref q) H'
/-- what is sorted: a list of tuples of m ints -/
theorem pe_ssetW {e : Expr} {ta : TA} {p p2 pos pos2 : Pos} (hu : X.A.units + 8 < cLine) (hh : X.A.handled = none) (hg : Gl X "sorted") (hm : X.mg "sorted" = none) (hg2 : Gl X "set") (hm2 : X.mg "set" = none)
    (ha : PA X [e] ta) (he : starEach [e] X.env = (false, eval e X.env) :: starEach [] X.env := by rfl) 
    (he2 : starEach [Expr.Call (.Name "set" p2) [e] [] pos2] X.env = (false, eval (Expr.Call (.Name "set" p2) [e] [] pos2) X.env) :: starEach [] X.env := by rfl) :
    PE X (.Call (.Name "sorted" p) [.Call (.Name "set" p2) [e] [] pos2] [] pos) (tCB rSSetW ta) := by
  intro pins s σ H Q I h
  refine wpAny_Call_Name_kw (ld_blt I hg hm (by first | exact boot_sorted | rfl | decide +kernel) ?_ (by decide) (by decide))
  refine PyProof.Rows.callWith_builtin1 ?_ he2 (by rfl)
  rw [he2]
  show wpAny _ _ (spliced ((false, eval (Expr.Call (.Name "set" p2) [e] [] pos2) X.env) :: backTo pos (starEach [] X.env))) _ _ s
  refine Calls.spliced_cons ?_
  refine wpAny_Call_Name_kw (ld_blt I hg2 hm2 (by first | rfl | decide +kernel) ?_ (by decide) (by decide))
  refine PyProof.Rows.callWith_type1 (thn (ha pos2 pins s σ H _ I h) fun us s1 ⟨vs, H1, I1, r1, q1⟩ => ?_) he (by rfl)
  obtain ⟨v, xss, m, rfl, hv, hm', hne', ⟨F, hF, hin⟩, q⟩ := q1
  obtain ⟨l, rs, rfl, hl, hi⟩ := of_l hv
  have hrs : rs.length = xss.length := by rw [hi.length, List.length_map]
  obtain ⟨u, rfl, rx⟩ := vals1 r1
  cases rx
  obtain ⟨its, r', pl, hz⟩ := I1.list (SqL.of (K := X.K) hl)
  have ln := r'.length
  have g : ∀ i, ∃ a, i < xss.length → its[i]? = some (.ref a) ∧ rs[i]? = some (.ref a) ∧ H1 a = some (.tup ((xss.getD i []).map V.int)) := fun i => by
    by_cases h : i < xss.length
    · have hr : i < rs.length := by omega
      obtain ⟨d, hd, h1⟩ := hi.of_get (List.getElem?_eq_getElem hr)
      rw [List.getElem?_map, List.getElem?_eq_getElem h] at hd
      cases hd
      obtain ⟨a, ea, ha⟩ := of_tI h1
      obtain ⟨u, hu1, ru⟩ := r'.get (List.getElem?_eq_getElem hr)
      rw [ea] at ru
      obtain rfl : u = Value.ref a := ru
      refine ⟨a, fun _ => ⟨hu1, by rw [List.getElem?_eq_getElem hr, ea], ?_⟩⟩
      rw [List.getD_eq_getElem?_getD, List.getElem?_eq_getElem h]
      exact ha
    · exact ⟨0, fun c => absurd c h⟩
  let ad : Nat → Addr := fun i => Classical.choose (g i)
  have hg : ∀ i, i < xss.length → its[i]? = some (.ref (ad i)) ∧ rs[i]? = some (.ref (ad i)) ∧ H1 (ad i) = some (.tup ((xss.getD i []).map V.int)) := fun i hi => Classical.choose_spec (g i) hi
  generalize ad = ad at hg
  refine call_set_tupW (kk := fun i => xss.getD i []) (ad := ad) (items := its.toArray) hh (by omega) pl.isList ⟨F, hF, fun i hi => by
      rw [List.size_toArray] at hi
      refine hin _ ?_
      rw [List.getD_eq_getElem?_getD, List.getElem?_eq_getElem (show i < xss.length by omega)]
      exact List.getElem_mem _⟩ (fun i hi => ?_) fun h' tk es hS en mk hk => ?_
  · rw [List.size_toArray] at hi
    have hg' := hg i (by omega)
    exact ⟨by rw [List.getElem?_toArray]; exact hg'.1, tkey_of I1 (SqT.of hg'.2.2)⟩
  · have I2 : Inv X pins σ H1 { s1 with heap := h', toks := tk } := I1.kept fun b o e => hk b o (Heap.lt_size e) e
    refine wpAny_pure ?_
    show wpAny _ _ (call (.builtin "sorted") [.ref s1.heap.objs.size]) _ _ { s1 with heap := h', toks := tk }
    obtain ⟨ep, t, ho, tb, tl, tp, tr⟩ := hS
    refine sorted_via (collect_set (s := { s1 with heap := h', toks := tk }) (A := X.A.in1) hh ho tb (by omega) tl tp fun h'' tk' vs hk' hsz hp => ?_) fun vs s' g => g
    have hkey : ∀ j, j < its.toArray.size → IsTupleKey (intKind X.prog X.w) h' (xss.getD j []) (ad j) := fun j hj => by
      rw [List.size_toArray] at hj
      exact tkey_of I2 (SqT.of (hg j (by omega)).2.2)
    obtain ⟨js, ev, lt, nd, all⟩ := set_told en mk hkey hp
    have I3 : Inv X pins σ H1 { s1 with heap := h'', toks := tk' } := I2.kept hk'
    have lt' : ∀ j ∈ js, j < xss.length := fun j hj => by have := lt j hj; rw [List.size_toArray] at this; omega
    subst ev
    have mem : ∀ z, z ∈ js.map (fun i => xss.getD i []) ↔ z ∈ xss := fun z => by
      constructor
      · intro hz
        obtain ⟨j, hj, rfl⟩ := List.mem_map.mp hz
        rw [List.getD_eq_getElem?_getD, List.getElem?_eq_getElem (lt' j hj)]
        exact List.getElem_mem _
      · intro hz
        obtain ⟨j, hj, e⟩ := List.getElem_of_mem hz
        have := all j (by rw [List.size_toArray]; omega)
        rw [List.getD_eq_getElem?_getD, List.getElem?_eq_getElem hj, e] at this
        exact this
    have bound : (js.map fun i => xss.getD i []).length < 64 := by
      have := nodup_in nd (F := F) fun z hz => hin z ((mem z).mp hz)
      omega
    refine sort_tail I3 (rs := js.map fun j => V.ref (ad j)) (xss := js.map fun i => xss.getD i []) (iss_refs _ ad js fun j hj => (hg j (lt' j hj)).2.2) (vals_refs ad js) hm' (fun xs hx => hne' xs ((mem xs).mp hx)) (by omega) (fun yss q' H' pm srt hq sm his => ?_) X.A
    exact q yss q' H' (pm.nodup_iff.mpr nd) (fun z => by rw [pm.mem_iff]; exact mem z) srt hq sm his
end
end L2
namespace Mine
open PySem L2 PyProof.Rows
def top (i : Nat) : Stmt := PySem.Challenge.pw_floorcurves_k62_words_of_templates.main.body.getD i (.Pass ⟨0, 0, 0, 0⟩)
abbrev s_choose : Stmt := top 1
theorem sc_choose : FnScope ["number", "chosen", "found", "place"] ["number", "chosen"] (defScope s_choose) := ⟨rfl, rfl, rfl, by decide +kernel, rfl, by decide +kernel, by decide +kernel⟩
abbrev s_with_more : Stmt := top 3
theorem sc_with_more : FnScope ["numbers", "place", "more"] ["numbers", "place", "more"] (defScope s_with_more) := ⟨rfl, rfl, rfl, by decide +kernel, rfl, by decide +kernel, by decide +kernel⟩
abbrev s_put_between : Stmt := top 5
theorem sc_put_between : FnScope ["numbers", "first", "last", "alike", "found", "here", "choices", "fuller", "others"] ["numbers", "first", "last", "alike"] (defScope s_put_between) := ⟨rfl, rfl, rfl, by decide +kernel, rfl, by decide +kernel, by decide +kernel⟩
abbrev s_how_many_orders : Stmt := top 6
theorem sc_how_many_orders : FnScope ["d", "marks", "known", "mark", "fuller", "numbers", "further", "choices"] ["d", "marks"] (defScope s_how_many_orders) := ⟨rfl, rfl, rfl, by decide +kernel, rfl, by decide +kernel, by decide +kernel⟩
abbrev s_length : Stmt := top 8
theorem sc_length : FnScope ["template"] ["template"] (defScope s_length) := ⟨rfl, rfl, rfl, by decide +kernel, rfl, by decide +kernel, by decide +kernel⟩
abbrev s_load : Stmt := top 9
theorem sc_load : FnScope ["template", "j"] ["template", "j"] (defScope s_load) := ⟨rfl, rfl, rfl, by decide +kernel, rfl, by decide +kernel, by decide +kernel⟩
abbrev s_least_place : Stmt := top 10
theorem sc_least_place : FnScope ["template"] ["template"] (defScope s_least_place) := ⟨rfl, rfl, rfl, by decide +kernel, rfl, by decide +kernel, by decide +kernel⟩
abbrev s_words_at : Stmt := top 11
theorem sc_words_at : FnScope ["template", "place", "marks", "j"] ["template", "place"] (defScope s_words_at) := ⟨rfl, rfl, rfl, by decide +kernel, rfl, by decide +kernel, by decide +kernel⟩
abbrev s__law_cell_at : Stmt := top 13
theorem sc__law_cell_at : FnScope ["_law_script", "_law_k"] ["_law_script", "_law_k"] (defScope s__law_cell_at) := ⟨rfl, rfl, rfl, by decide +kernel, rfl, by decide +kernel, by decide +kernel⟩
abbrev s__law_bag : Stmt := top 14
theorem sc__law_bag : FnScope ["_law_cell", "_law_place", "_law_far"] ["_law_cell", "_law_place"] (defScope s__law_bag) := ⟨rfl, rfl, rfl, by decide +kernel, rfl, by decide +kernel, by decide +kernel⟩
abbrev s__law_mixed : Stmt := top 15
theorem sc__law_mixed : FnScope ["_law_bag_here"] ["_law_bag_here"] (defScope s__law_mixed) := ⟨rfl, rfl, rfl, by decide +kernel, rfl, by decide +kernel, by decide +kernel⟩
abbrev s__law_digit : Stmt := top 16
theorem sc__law_digit : FnScope ["_law_bag_here", "_law_many", "_law_found", "_law_k"] ["_law_bag_here", "_law_many"] (defScope s__law_digit) := ⟨rfl, rfl, rfl, by decide +kernel, rfl, by decide +kernel, by decide +kernel⟩
abbrev s__law_crossings : Stmt := top 17
theorem sc__law_crossings : FnScope ["_law_lifts"] ["_law_lifts"] (defScope s__law_crossings) := ⟨rfl, rfl, rfl, by decide +kernel, rfl, by decide +kernel, by decide +kernel⟩
abbrev s__law_one_more : Stmt := top 18
theorem sc__law_one_more : FnScope ["_law_bag_here", "_law_lifts", "_law_room", "_law_end", "_law_some", "_law_low", "_law_high", "_law_weight"] ["_law_bag_here", "_law_lifts", "_law_room"] (defScope s__law_one_more) := ⟨rfl, rfl, rfl, by decide +kernel, rfl, by decide +kernel, by decide +kernel⟩
abbrev s__law_drawn : Stmt := top 19
theorem sc__law_drawn : FnScope ["_law_bag_here", "_law_k", "_law_lifts"] ["_law_bag_here", "_law_k"] (defScope s__law_drawn) := ⟨rfl, rfl, rfl, by decide +kernel, rfl, by decide +kernel, by decide +kernel⟩
abbrev s__law_short_ones : Stmt := top 20
theorem sc__law_short_ones : FnScope ["_law_template", "_law_place", "_law_end", "_law_found", "_law_j", "_law_passed"] ["_law_template", "_law_place", "_law_end"] (defScope s__law_short_ones) := ⟨rfl, rfl, rfl, by decide +kernel, rfl, by decide +kernel, by decide +kernel⟩
abbrev s__law_put_in : Stmt := top 21
theorem sc__law_put_in : FnScope ["_law_sizes", "_law_lift", "_law_found", "_law_gap", "_law_row", "_law_larger"] ["_law_sizes", "_law_lift"] (defScope s__law_put_in) := ⟨rfl, rfl, rfl, by decide +kernel, rfl, by decide +kernel, by decide +kernel⟩
abbrev s__law_due : Stmt := top 22
theorem sc__law_due : FnScope ["_law_template", "_law_place", "_law_end", "_law_sizes", "_law_rows", "_law_alike", "_law_k"] ["_law_template", "_law_place"] (defScope s__law_due) := ⟨rfl, rfl, rfl, by decide +kernel, rfl, by decide +kernel, by decide +kernel⟩
abbrev s_law : Stmt := top 23
theorem sc_law : FnScope ["_law_script", "_law_bag_here", "_law_template", "_law_place", "_law_handed", "_law_found"] ["_law_script"] (defScope s_law) := ⟨rfl, rfl, rfl, by decide +kernel, rfl, by decide +kernel, by decide +kernel⟩
set_option genInjectivity false
set_option genSizeOfSpec false
structure Fns (K : PySem.W.Frag) (mg : Str → Option Value) where
  f_choose : Addr
  d_choose : FuncData
  f_with_more : Addr
  d_with_more : FuncData
  f_put_between : Addr
  d_put_between : FuncData
  f_how_many_orders : Addr
  d_how_many_orders : FuncData
  f_length : Addr
  d_length : FuncData
  f_load : Addr
  d_load : FuncData
  f_least_place : Addr
  d_least_place : FuncData
  f_words_at : Addr
  d_words_at : FuncData
  f__law_cell_at : Addr
  d__law_cell_at : FuncData
  f__law_bag : Addr
  d__law_bag : FuncData
  f__law_mixed : Addr
  d__law_mixed : FuncData
  f__law_digit : Addr
  d__law_digit : FuncData
  f__law_crossings : Addr
  d__law_crossings : FuncData
  f__law_one_more : Addr
  d__law_one_more : FuncData
  f__law_drawn : Addr
  d__law_drawn : FuncData
  f__law_short_ones : Addr
  d__law_short_ones : FuncData
  f__law_put_in : Addr
  d__law_put_in : FuncData
  f__law_due : Addr
  d__law_due : FuncData
  f_law : Addr
  d_law : FuncData
  F_choose : Fun K "choose" "choose" s_choose f_choose d_choose
  B_choose : Binds K d_choose ["number", "chosen"] []
  m_choose : mg "choose" = some (.ref f_choose)
  F_with_more : Fun K "with_more" "with_more" s_with_more f_with_more d_with_more
  B_with_more : Binds K d_with_more ["numbers", "place", "more"] []
  m_with_more : mg "with_more" = some (.ref f_with_more)
  F_put_between : Fun K "put_between" "put_between" s_put_between f_put_between d_put_between
  B_put_between : Binds K d_put_between ["numbers", "first", "last", "alike"] []
  m_put_between : mg "put_between" = some (.ref f_put_between)
  F_how_many_orders : Fun K "how_many_orders" "how_many_orders" s_how_many_orders f_how_many_orders d_how_many_orders
  B_how_many_orders : Binds K d_how_many_orders ["d", "marks"] []
  m_how_many_orders : mg "how_many_orders" = some (.ref f_how_many_orders)
  F_length : Fun K "length" "length" s_length f_length d_length
  B_length : Binds K d_length ["template"] []
  m_length : mg "length" = some (.ref f_length)
  F_load : Fun K "load" "load" s_load f_load d_load
  B_load : Binds K d_load ["template", "j"] []
  m_load : mg "load" = some (.ref f_load)
  F_least_place : Fun K "least_place" "least_place" s_least_place f_least_place d_least_place
  B_least_place : Binds K d_least_place ["template"] []
  m_least_place : mg "least_place" = some (.ref f_least_place)
  F_words_at : Fun K "words_at" "words_at" s_words_at f_words_at d_words_at
  B_words_at : Binds K d_words_at ["template", "place"] []
  m_words_at : mg "words_at" = some (.ref f_words_at)
  F__law_cell_at : Fun K "_law_cell_at" "_law_cell_at" s__law_cell_at f__law_cell_at d__law_cell_at
  B__law_cell_at : Binds K d__law_cell_at ["_law_script", "_law_k"] []
  m__law_cell_at : mg "_law_cell_at" = some (.ref f__law_cell_at)
  F__law_bag : Fun K "_law_bag" "_law_bag" s__law_bag f__law_bag d__law_bag
  B__law_bag : Binds K d__law_bag ["_law_cell", "_law_place"] []
  m__law_bag : mg "_law_bag" = some (.ref f__law_bag)
  F__law_mixed : Fun K "_law_mixed" "_law_mixed" s__law_mixed f__law_mixed d__law_mixed
  B__law_mixed : Binds K d__law_mixed ["_law_bag_here"] []
  m__law_mixed : mg "_law_mixed" = some (.ref f__law_mixed)
  F__law_digit : Fun K "_law_digit" "_law_digit" s__law_digit f__law_digit d__law_digit
  B__law_digit : Binds K d__law_digit ["_law_bag_here", "_law_many"] []
  m__law_digit : mg "_law_digit" = some (.ref f__law_digit)
  F__law_crossings : Fun K "_law_crossings" "_law_crossings" s__law_crossings f__law_crossings d__law_crossings
  B__law_crossings : Binds K d__law_crossings ["_law_lifts"] []
  m__law_crossings : mg "_law_crossings" = some (.ref f__law_crossings)
  F__law_one_more : Fun K "_law_one_more" "_law_one_more" s__law_one_more f__law_one_more d__law_one_more
  B__law_one_more : Binds K d__law_one_more ["_law_bag_here", "_law_lifts", "_law_room"] []
  m__law_one_more : mg "_law_one_more" = some (.ref f__law_one_more)
  F__law_drawn : Fun K "_law_drawn" "_law_drawn" s__law_drawn f__law_drawn d__law_drawn
  B__law_drawn : Binds K d__law_drawn ["_law_bag_here", "_law_k"] []
  m__law_drawn : mg "_law_drawn" = some (.ref f__law_drawn)
  F__law_short_ones : Fun K "_law_short_ones" "_law_short_ones" s__law_short_ones f__law_short_ones d__law_short_ones
  B__law_short_ones : Binds K d__law_short_ones ["_law_template", "_law_place", "_law_end"] []
  m__law_short_ones : mg "_law_short_ones" = some (.ref f__law_short_ones)
  F__law_put_in : Fun K "_law_put_in" "_law_put_in" s__law_put_in f__law_put_in d__law_put_in
  B__law_put_in : Binds K d__law_put_in ["_law_sizes", "_law_lift"] []
  m__law_put_in : mg "_law_put_in" = some (.ref f__law_put_in)
  F__law_due : Fun K "_law_due" "_law_due" s__law_due f__law_due d__law_due
  B__law_due : Binds K d__law_due ["_law_template", "_law_place"] []
  m__law_due : mg "_law_due" = some (.ref f__law_due)
  F_law : Fun K "law" "law" s_law f_law d_law
  B_law : Binds K d_law ["_law_script"] []
  m_law : mg "law" = some (.ref f_law)
  n_range : mg "range" = none
  n_sorted : mg "sorted" = none
  n_sum : mg "sum" = none
  n_tuple : mg "tuple" = none
  n_set : mg "set" = none
  n_max : mg "max" = none
  n_len : mg "len" = none
  n_abs : mg "abs" = none
  n_list : mg "list" = none
  n_min : mg "min" = none
  n_isinstance : mg "isinstance" = none
  n_bool : mg "bool" = none
  n_int : mg "int" = none
/-! loads and places -/
abbrev Lf := Int × Int × Int
def row3 (p : Lf) : List Int := [p.1, p.2.1, p.2.2]
def inF (j : Int) (p : Lf) : Bool := decide (p.1 < j) && decide (j ≤ p.2.1)
def loadF (ps : List Lf) (j : Int) : Int := ((ps.filter (inF j)).map (·.2.2)).sum
def lenF (ps : List Lf) : Int := maxL (ps.map (·.2.1))
def crossF (ps : List Lf) : Int := (ps.map fun p => (p.2.1 - p.1) * p.2.2 - 1).sum
def leastL (ps : List Lf) (n : Nat) : List Int := (List.range n).map fun i : Nat => loadF ps (1 + (i : Int)) - (1 + (i : Int)) + 1
def OkP (p : Lf) : Prop := 0 ≤ p.1 ∧ p.1 < p.2.1 ∧ p.2.1 ≤ 40 ∧ 1 ≤ p.2.2 ∧ p.2.2 ≤ 4
def OkT (ps : List Lf) : Prop := ps.length ≤ 20 ∧ (∀ p ∈ ps, OkP p) ∧ ∃ p ∈ ps, p.1 = 0
theorem best_le (ns : List Int) : ∀ k, (argBest (fun i j => decide (ns.getD i 0 > ns.getD j 0)) k) ≤ k ∧ ∀ i, i ≤ k → ns.getD i 0 ≤ ns.getD (argBest (fun i j => decide (ns.getD i 0 > ns.getD j 0)) k) 0
  | 0 => ⟨Nat.le_refl _, fun i hi => by rw [show i = 0 by omega]; exact Int.le_refl _⟩
  | k + 1 => by
    obtain ⟨h1, h2⟩ := best_le ns k
    unfold argBest
    generalize argBest (fun i j => decide (ns.getD i 0 > ns.getD j 0)) k = m at h1 h2
    by_cases c : ns.getD (k + 1) 0 > ns.getD m 0
    · rw [if_pos (decide_eq_true c)]
      refine ⟨Nat.le_refl _, fun i hi => ?_⟩
      by_cases e : i = k + 1
      · rw [e]; exact Int.le_refl _
      · have := h2 i (by omega)
        omega
    · rw [if_neg (by rw [decide_eq_false c]; decide)]
      refine ⟨by omega, fun i hi => ?_⟩
      by_cases e : i = k + 1
      · rw [e]; omega
      · exact h2 i (by omega)
theorem maxL_ge {ns : List Int} {x : Int} (h : x ∈ ns) : x ≤ maxL ns := by
  obtain ⟨i, hi, rfl⟩ := List.mem_iff_getElem.mp h
  have := (best_le ns (ns.length - 1)).2 i (by omega)
  rw [List.getD_eq_getElem?_getD, List.getElem?_eq_getElem hi] at this
  exact this
theorem maxL_mem {ns : List Int} (h : 0 < ns.length) : maxL ns ∈ ns := by
  have h1 := (best_le ns (ns.length - 1)).1
  unfold maxL
  generalize argBest (fun i j => decide (ns.getD i 0 > ns.getD j 0)) (ns.length - 1) = m at h1
  rw [List.getD_eq_getElem?_getD, List.getElem?_eq_getElem (by omega)]
  exact List.getElem_mem _
theorem cross_add (ps : List Lf) (p : Lf) : crossF (ps ++ [p]) = crossF ps + ((p.2.1 - p.1) * p.2.2 - 1) := by
  unfold crossF
  rw [List.map_append, List.sum_append]
  simp
theorem len_ok {ps : List Lf} (h : OkT ps) : 1 ≤ lenF ps ∧ lenF ps ≤ 40 := by
  obtain ⟨_, hp, p, hm, h0⟩ := h
  have m : lenF ps ∈ ps.map (·.2.1) := maxL_mem (by rw [List.length_map]; cases ps with | nil => cases hm | cons => simp)
  obtain ⟨q, hq, e⟩ := List.mem_map.mp m
  obtain ⟨q1, q2, q3, q4, q5⟩ := hp q hq
  have e : q.2.1 = lenF ps := e
  omega
theorem least_len (ps : List Lf) (n : Nat) : (leastL ps n).length = n := by simp [leastL]
theorem least_ge {ps : List Lf} {n i : Nat} (h : i < n) : loadF ps (1 + (i : Int)) - (1 + (i : Int)) + 1 ≤ maxL (leastL ps n) := maxL_ge (List.mem_map.mpr ⟨i, List.mem_range.mpr h, rfl⟩)
theorem at_int {ks : List Int} {i : Nat} (h : i < ks.length) : atI (ks.map V.int) (i : Int) = some (.int (ks.getD i 0)) := atI_nat (by rw [List.getElem?_map, List.getElem?_eq_getElem h]; simp [List.getD, h])
theorem bits60 {z : Int} (h0 : 0 < z) (h1 : z ≤ 10 ^ 60) : z ≠ 0 ∧ z.natAbs < 2 ^ 512 := by
  have : (10 : Nat) ^ 60 < 2 ^ 512 := by decide
  constructor <;> omega
def back (xs : List Int) : Lf := (xs.getD 0 0, xs.getD 1 0, xs.getD 2 0)
theorem back_row (p : Lf) : back (row3 p) = p := rfl
def lf (p : Lf) : D := tI (row3 p)
def lfs (ps : List Lf) : D := .l (ps.map lf)
theorem of_lf {H : Hp} {p : Lf} {v : V} (h : Is H (lf p) v) : ∃ a, v = .ref a ∧ H a = some (.tup [.int p.1, .int p.2.1, .int p.2.2]) := of_tI h
theorem is_lf {H : Hp} {p : Lf} {a : Addr} (h : H a = some (.tup [.int p.1, .int p.2.1, .int p.2.2])) : Is H (lf p) (.ref a) := is_tI (xs := row3 p) h
theorem lfs_rows (ps : List Lf) : lfs ps = .l ((ps.map row3).map tI) := by unfold lfs; rw [List.map_map]; rfl
theorem eqD_lfs (ps : List Lf) {K : PySem.W.Frag} {H : Hp} {v u : V} (h : Is H (lfs ps) v) (k : Is H (lfs ps) u) : EqR K H 2 v u true := by
  have kin : ∀ ps : List Lf, Kins (ps.map lf) (ps.map lf) := fun ps => by
    induction ps with
    | nil => exact trivial
    | cons p ps ih => exact ⟨by simp [lf, tI, row3, Kin, Kins], ih⟩
  have dp : ∀ ps : List Lf, deps (ps.map lf) ≤ 1 := fun ps => by
    induction ps with
    | nil => simp [deps]
    | cons p ps ih => simp [deps, lf, tI, row3, dep] at ih ⊢; omega
  have e := h.eqr (K := K) (n := 2) (by have := dp ps; unfold lfs dep; omega) (by unfold lfs Kin; exact kin ps) k
  rw [eqD_self] at e
  exact e
def TupS (H H' : Hp) : Prop := ∀ a xs, H a = some (.tup xs) → H' a = some (.tup xs)
theorem TupS.of_same {H H' : Hp} (s : Same H H') : TupS H H' := fun a xs e => s _ _ e
theorem TupS.trans {H H' H'' : Hp} (s : TupS H H') (t : TupS H' H'') : TupS H H'' := fun a xs e => t _ _ (s _ _ e)
theorem TupS.upd {H : Hp} {b : Addr} {zs ys : List V} (hb : H b = some (.lst zs)) : TupS H (L2.upd H b (.lst ys)) := fun a xs e => by
  rw [upd_ne (by rintro rfl; rw [hb] at e; cases e)]; exact e
theorem iss_lf {H H' : Hp} (t : TupS H H') : ∀ {ps : List Lf} {vs : List V}, Iss H (ps.map lf) vs → Iss H' (ps.map lf) vs
  | [], _, h => by rw [of_nil h]; exact iss_nil
  | p :: ps, _, h => by
    obtain ⟨u, us, rfl, h1, h2⟩ := of_cons h
    obtain ⟨a, rfl, ha⟩ := of_lf h1
    exact iss_cons (is_lf (t _ _ ha)) (iss_lf t h2)
/-! lists of lifts by < -/
def ltLf (p q : Lf) : Bool := if p.1 = q.1 then (if p.2.1 = q.2.1 then decide (p.2.2 < q.2.2) else decide (p.2.1 < q.2.1)) else decide (p.1 < q.1)
theorem eqr_lf {K : PySem.W.Frag} {H : Hp} {p q : Lf} {v w : V} (h : Is H (lf p) v) (k : Is H (lf q) w) : EqR K H 1 v w (decide (p = q)) := by
  have e := h.eqr (K := K) (n := 1) (by simp [lf, tI, row3, dep, deps]) (by simp [lf, tI, row3, Kin, Kins]) k
  have : eqD (lf p) (lf q) = decide (p = q) := by
    obtain ⟨a, b, c⟩ := p
    obtain ⟨d, e, f⟩ := q
    simp [lf, tI, row3, eqD, eqDs, Bool.and_assoc]
  rwa [this] at e
/-! without the lists of an earlier heap -/
def nw (H0 H : Hp) : Hp := fun b => match H0 b with | some (.lst _) => none | _ => H b
theorem ltI_lf (p q : Lf) : ltI (row3 p) (row3 q) = ltLf p q := by
  unfold ltLf ltI row3
  simp only [lexI, List.length_cons, List.length_nil]
  split
  · split
    · split
      · rename_i h; simp [h]
      · rfl
    · rfl
  · rfl
theorem flat_succ {α : Type} (g : Nat → List α) (i : Nat) : (List.range (i + 1)).flatMap g = (List.range i).flatMap g ++ g i := by
  rw [List.range_succ, List.flatMap_append]
  simp
theorem pre_len {α : Type} (g : Nat → List α) : ∀ {m i : Nat}, i < m → ((List.range i).flatMap g).length + (g i).length ≤ ((List.range m).flatMap g).length
  | 0, i, h => absurd h (by omega)
  | m + 1, i, h => by
    rw [flat_succ, List.length_append]
    by_cases e : i = m
    · rw [e]; exact Nat.le_refl _
    · have := pre_len g (m := m) (i := i) (by omega)
      omega
def insL (x : Lf) : List Lf → List Lf
  | [] => [x]
  | y :: ys => if ltLf x y then x :: y :: ys else if x = y then y :: ys else y :: insL x ys
def sset (xs : List Lf) : List Lf := xs.foldr insL []
theorem ltLf_iff {p q : Lf} : ltLf p q = true ↔ p.1 < q.1 ∨ (p.1 = q.1 ∧ (p.2.1 < q.2.1 ∨ (p.2.1 = q.2.1 ∧ p.2.2 < q.2.2))) := by
  unfold ltLf
  by_cases e0 : p.1 = q.1
  · by_cases e1 : p.2.1 = q.2.1
    · simp [e0, e1]
    · simp [e0, e1]
  · simp [e0]
theorem ltLf_no {p : Lf} : ¬ ltLf p p = true := by rw [ltLf_iff]; omega
theorem ltLf_tr {p q r : Lf} (h : ltLf p q = true) (k : ltLf q r = true) : ltLf p r = true := by rw [ltLf_iff] at *; omega
theorem ltLf_tri {p q : Lf} (h : ¬ ltLf p q = true) (k : p ≠ q) : ltLf q p = true := by
  rw [ltLf_iff] at *
  obtain ⟨a, b, c⟩ := p
  obtain ⟨d, e, f⟩ := q
  simp only [ne_eq, Prod.mk.injEq, not_and] at *
  omega
theorem insL_mem {x z : Lf} : ∀ {ys : List Lf}, z ∈ insL x ys ↔ z = x ∨ z ∈ ys
  | [] => by simp [insL]
  | y :: ys => by
    unfold insL
    split
    · simp
    · split
      · rename_i e
        subst e
        simp
      · simp [insL_mem (ys := ys)]
        constructor
        · rintro (h | h | h)
          · exact .inr (.inl h)
          · exact .inl h
          · exact .inr (.inr h)
        · rintro (h | h | h)
          · exact .inr (.inl h)
          · exact .inl h
          · exact .inr (.inr h)
theorem insL_pw {x : Lf} : ∀ {ys : List Lf}, (ys.Pairwise fun a b => ltLf a b = true) → (insL x ys).Pairwise fun a b => ltLf a b = true
  | [], _ => by simp [insL]
  | y :: ys, h => by
    unfold insL
    split
    · rename_i e
      refine List.Pairwise.cons (fun z hz => ?_) h
      rcases List.mem_cons.mp hz with rfl | hz
      · exact e
      · exact ltLf_tr e ((List.pairwise_cons.mp h).1 z hz)
    · split
      · exact h
      · rename_i e1 e2
        refine List.Pairwise.cons (fun z hz => ?_) (insL_pw (List.pairwise_cons.mp h).2)
        rcases insL_mem.mp hz with rfl | hz
        · exact ltLf_tri e1 e2
        · exact (List.pairwise_cons.mp h).1 z hz
theorem sset_mem {z : Lf} : ∀ {xs : List Lf}, z ∈ sset xs ↔ z ∈ xs
  | [] => by simp [sset]
  | x :: xs => by
    have := sset_mem (z := z) (xs := xs)
    unfold sset at this ⊢
    rw [List.foldr_cons, insL_mem, this, List.mem_cons]
theorem sset_pw : ∀ (xs : List Lf), (sset xs).Pairwise fun a b => ltLf a b = true
  | [] => by simp [sset]
  | x :: xs => by
    have := sset_pw xs
    unfold sset at this ⊢
    rw [List.foldr_cons]
    exact insL_pw this
theorem pw_unique : ∀ {xs ys : List Lf}, (xs.Pairwise fun a b => ltLf a b = true) → (ys.Pairwise fun a b => ltLf a b = true) → (∀ z, z ∈ xs ↔ z ∈ ys) → xs = ys
  | [], [], _, _, _ => rfl
  | [], y :: ys, _, _, h => absurd ((h y).mpr (by simp)) (by simp)
  | x :: xs, [], _, _, h => absurd ((h x).mp (by simp)) (by simp)
  | x :: xs, y :: ys, h1, h2, h => by
    have a1 := List.pairwise_cons.mp h1
    have a2 := List.pairwise_cons.mp h2
    have e : x = y := by
      refine Classical.byContradiction fun ne => ?_
      have m1 : x ∈ ys := by rcases List.mem_cons.mp ((h x).mp (by simp)) with e | e; exact absurd e ne; exact e
      have m2 : y ∈ xs := by rcases List.mem_cons.mp ((h y).mpr (by simp)) with e | e; exact absurd e.symm ne; exact e
      exact ltLf_no (ltLf_tr (a1.1 y m2) (a2.1 x m1))
    subst e
    have : xs = ys := pw_unique a1.2 a2.2 fun z => by
      have hz := h z
      rw [List.mem_cons, List.mem_cons] at hz
      constructor
      · intro m
        rcases hz.mp (.inr m) with e | e
        · subst e; exact absurd (a1.1 z m) ltLf_no
        · exact e
      · intro m
        rcases hz.mpr (.inr m) with e | e
        · subst e; exact absurd (a2.1 z m) ltLf_no
        · exact e
    rw [this]
theorem row3_inj {p q : Lf} (h : row3 p = row3 q) : p = q := by rw [← back_row p, ← back_row q, h]
theorem sset_is {ps : List Lf} {yss : List (List Int)} (nd : yss.Nodup) (mem : ∀ z, z ∈ yss ↔ z ∈ ps.map row3) (so : ∀ i j, i < j → j < yss.length → ltI (yss.getD j []) (yss.getD i []) = false) : yss = (sset ps).map row3 := by
  obtain ⟨qs, e, hq⟩ := list_choose (f := row3) (P := fun p => p ∈ ps) yss fun v hv => by
    obtain ⟨p, hp, rfl⟩ := List.mem_map.mp ((mem v).mp hv)
    exact ⟨p, hp, rfl⟩
  subst e
  have : qs = sset ps := by
    refine pw_unique ?_ (sset_pw ps) fun z => ?_
    · rw [List.pairwise_iff_getElem]
      intro i j hi hj hij
      have h1 := so i j hij (by rw [List.length_map]; exact hj)
      rw [List.getD_eq_getElem?_getD, List.getD_eq_getElem?_getD, List.getElem?_map, List.getElem?_map, List.getElem?_eq_getElem hi, List.getElem?_eq_getElem hj] at h1
      simp only [Option.map_some, Option.getD_some] at h1
      rw [ltI_lf] at h1
      refine ltLf_tri (by rw [h1]; simp) fun e => ?_
      unfold List.Nodup at nd
      rw [List.pairwise_map, List.pairwise_iff_getElem] at nd
      exact nd i j hi hj hij (by rw [e])
    · rw [sset_mem]
      constructor
      · exact hq z
      · intro hz
        obtain ⟨q, hq', e⟩ := List.mem_map.mp ((mem (row3 z)).mpr (List.mem_map_of_mem hz))
        rw [← row3_inj e]
        exact hq'
  rw [this]
def chF (n : Int) : Nat → Int
  | 0 => 1
  | k + 1 => chF n k * (n - (k : Int)) / ((k : Int) + 1)
def wmF (t : List Int) (p : Nat) (m : Int) : List Int := t.set p (t.getD p 0 + m)
theorem wm_len (t : List Int) (p : Nat) (m : Int) : (wmF t p m).length = t.length := by unfold wmF; rw [List.length_set]
theorem wm_at {t : List Int} {p i : Nat} {m : Int} (h : p < t.length) : (wmF t p m).getD i 0 = t.getD i 0 + if p = i then m else 0 := by
  unfold wmF
  rw [List.getD_eq_getElem?_getD, List.getElem?_set]
  by_cases e : p = i
  · subst e; simp [h]
  · simp [e]
theorem set_cut {t : List Int} {p : Nat} {x : Int} (h : p < t.length) : t.take p ++ [x] ++ t.drop (p + 1) = t.set p x := by
  rw [List.set_eq_take_append_cons_drop, if_pos h]
  simp
def spR : Nat → Nat → List (List Nat)
  | 0, a => [[a]]
  | g + 1, a => (List.range (a + 1)).flatMap fun h => (spR g (a - h)).map (h :: ·)
def rowP (t : List Int) : Nat → List Nat → Int
  | _, [] => 1
  | p, s :: r => chF (t.getD p 0 + (s : Int)) s * rowP t (p + 1) r
def addR (t : List Int) : Nat → List Nat → List Int
  | _, [] => t
  | p, s :: r => addR (wmF t p (s : Int)) (p + 1) r
theorem rowP_wm {t : List Int} {m : Int} {q : Nat} (hq : q < t.length) : ∀ {r : List Nat} {p : Nat}, q < p → rowP (wmF t q m) p r = rowP t p r
  | [], p, _ => rfl
  | s :: r, p, h => by
    unfold rowP
    rw [wm_at hq, if_neg (by omega), rowP_wm hq (r := r) (by omega)]
    simp
def pbF : Nat → List Int → Nat → Nat → List (List Int × Int)
  | 0, t, p, a => [(wmF t p (a : Int), chF (t.getD p 0 + (a : Int)) a)]
  | g + 1, t, p, a => (List.range (a + 1)).flatMap fun h : Nat => (pbF g (wmF t p (h : Int)) (p + 1) (a - h)).map fun x => (x.1, chF (t.getD p 0 + (h : Int)) h * x.2)
theorem flatMap_eq {α β : Type} {f g : α → List β} : ∀ {xs : List α}, (∀ x ∈ xs, f x = g x) → xs.flatMap f = xs.flatMap g
  | [], _ => rfl
  | x :: xs, h => by rw [List.flatMap_cons, List.flatMap_cons, h x (by simp), flatMap_eq fun y hy => h y (by simp [hy])]
theorem pb_eq : ∀ {g : Nat} {t : List Int} {p a : Nat}, p + g < t.length → pbF g t p a = (spR g a).map fun r => (addR t p r, rowP t p r)
  | 0, t, p, a, _ => by simp [pbF, spR, addR, rowP]
  | g + 1, t, p, a, h => by
    unfold pbF spR
    rw [List.map_flatMap]
    refine flatMap_eq fun x _ => ?_
    rw [pb_eq (by rw [wm_len]; omega), List.map_map, List.map_map]
    refine List.map_congr_left fun r _ => ?_
    simp only [Function.comp, addR, rowP]
    rw [rowP_wm (by omega) (Nat.lt_succ_self p)]
theorem spR_len : ∀ {g a : Nat} {r : List Nat}, r ∈ spR g a → r.length = g + 1 ∧ r.sum = a
  | 0, a, r, h => by simp [spR] at h; subst h; simp
  | g + 1, a, r, h => by
    unfold spR at h
    obtain ⟨x, hx, h⟩ := List.mem_flatMap.mp h
    obtain ⟨r', h', rfl⟩ := List.mem_map.mp h
    have hx := List.mem_range.mp hx
    obtain ⟨e1, e2⟩ := spR_len h'
    simp [e1, e2]
    omega
abbrev Tab := List (List Int × Int)
def sumD (D : Tab) (g : List Int → Int) : Int := (D.map fun x => x.2 * g x.1).sum
def valD (D : Tab) (k : List Int) : Int := ((D.find? fun x => decide (x.1 = k)).map (·.2)).getD 0
def putD (D : Tab) (k : List Int) (v : Int) : Tab := if (D.any fun x => decide (x.1 = k)) = true then D.map (fun x => if x.1 = k then (x.1, v) else x) else D ++ [(k, v)]
def addD (D : Tab) (k : List Int) (v : Int) : Tab := putD D k (valD D k + v)
theorem keys_put (D : Tab) (k : List Int) (v : Int) : (putD D k v).map (·.1) = if k ∈ D.map (·.1) then D.map (·.1) else D.map (·.1) ++ [k] := by
  unfold putD
  have : (D.any fun x => decide (x.1 = k)) = true ↔ k ∈ D.map (·.1) := by
    rw [List.any_eq_true, List.mem_map]
    simp
  by_cases h : k ∈ D.map (·.1)
  · rw [if_pos h, if_pos (this.mpr h), List.map_map]
    refine List.map_congr_left fun x _ => ?_
    simp only [Function.comp]
    split <;> rfl
  · rw [if_neg h, if_neg (fun z => h (this.mp z)), List.map_append]
    rfl
theorem sum_put_new {D : Tab} {k : List Int} {v : Int} {g : List Int → Int} (h : k ∉ D.map (·.1)) : sumD (putD D k v) g = sumD D g + v * g k ∧ valD D k = 0 := by
  have hn : ∀ x ∈ D, x.1 ≠ k := fun x hx e => h (List.mem_map.mpr ⟨x, hx, e⟩)
  have e1 : (D.any fun x => decide (x.1 = k)) = false := by
    rw [List.any_eq_false]
    intro x hx
    simpa using hn x hx
  have e2 : D.find? (fun x => decide (x.1 = k)) = none := by
    rw [List.find?_eq_none]
    intro x hx
    simpa using hn x hx
  unfold putD valD sumD
  rw [e1, e2]
  simp
theorem sum_put_old : ∀ {D : Tab} {k : List Int} {v : Int} {g : List Int → Int}, (D.map (·.1)).Nodup → k ∈ D.map (·.1) → sumD (D.map fun x => if x.1 = k then (x.1, v) else x) g = sumD D g + (v - valD D k) * g k
  | [], _, _, _, _, h => by simp at h
  | x :: D, k, v, g, nd, h => by
    rw [List.map_cons, List.nodup_cons] at nd
    by_cases e : x.1 = k
    · subst e
      have hn : ∀ y ∈ D, y.1 ≠ x.1 := fun y hy e => nd.1 (List.mem_map.mpr ⟨y, hy, e⟩)
      have e1 : (D.map fun y => if y.1 = x.1 then (y.1, v) else y) = D := by
        conv => rhs; rw [← List.map_id D]
        refine List.map_congr_left fun y hy => ?_
        rw [if_neg (hn y hy)]
        rfl
      have e2 : valD (x :: D) x.1 = x.2 := by simp [valD]
      rw [List.map_cons, e1, e2]
      simp only [sumD, if_true, List.map_cons, List.sum_cons]
      rw [Int.sub_mul]
      omega
    · have hk : k ∈ D.map (·.1) := by
        rw [List.map_cons, List.mem_cons] at h
        rcases h with h | h
        · exact absurd h.symm e
        · exact h
      have ih := sum_put_old (g := g) (v := v) nd.2 hk
      have e2 : valD (x :: D) k = valD D k := by simp [valD, List.find?_cons, e]
      rw [e2, List.map_cons]
      simp only [sumD, List.map_cons, List.sum_cons, if_neg e] at ih ⊢
      omega
theorem sum_add {D : Tab} (nd : (D.map (·.1)).Nodup) (k : List Int) (v : Int) (g : List Int → Int) : sumD (addD D k v) g = sumD D g + v * g k := by
  unfold addD
  by_cases h : k ∈ D.map (·.1)
  · have e : (D.any fun x => decide (x.1 = k)) = true := by
      rw [List.any_eq_true]
      obtain ⟨x, hx, e⟩ := List.mem_map.mp h
      exact ⟨x, hx, decide_eq_true e⟩
    unfold putD
    rw [if_pos e, sum_put_old nd h]
    rw [show valD D k + v - valD D k = v by omega]
  · obtain ⟨e1, e2⟩ := sum_put_new (v := valD D k + v) (g := g) h
    rw [e1, e2]
    simp
theorem nd_put {D : Tab} (nd : (D.map (·.1)).Nodup) (k : List Int) (v : Int) : ((putD D k v).map (·.1)).Nodup := by
  rw [keys_put]
  split
  · exact nd
  · rename_i h
    rw [List.nodup_append]
    exact ⟨nd, by simp, fun a ha b hb => by simp at hb; subst hb; exact fun e => h (e ▸ ha)⟩
def inP (t : List Int) (v : Int) (p : Nat) (rs : List (List Nat)) (acc : Tab) : Tab := rs.foldl (fun acc r => addD acc (addR t p r) (v * rowP t p r)) acc
def stP (p : Nat) (rs : List (List Nat)) (xs acc : Tab) : Tab := xs.foldl (fun acc x => inP x.1 x.2 p rs acc) acc
def rsum (g : List Int → Int) (p : Nat) (rs : List (List Nat)) (t : List Int) : Int := (rs.map fun r => rowP t p r * g (addR t p r)).sum
def TF (cnt : Lf → Nat) : List Lf → List Int → Int
  | [], _ => 1
  | m :: ms, t => rsum (TF cnt ms) (m.1 - 1).toNat (spR (m.2.1 - m.1 - 1).toNat (cnt m)) t
def hmF (d : Nat) (mk : List Lf) : Int := TF (fun m => mk.count m) (sset mk) (List.replicate d 0)
theorem sumD_one (D : Tab) : sumD D (fun _ => 1) = (D.map (·.2)).sum := by
  unfold sumD
  congr 1
  refine List.map_congr_left fun x _ => ?_
  show x.2 * 1 = x.2
  omega
theorem nodup_lt : ∀ (N : Nat) (xs : List Nat), xs.Nodup → (∀ x ∈ xs, x < N) → xs.length ≤ N
  | 0, [], _, _ => Nat.le_refl _
  | 0, x :: xs, _, h => absurd (h x (by simp)) (by omega)
  | N + 1, xs, nd, h => by
    have h1 := nodup_lt N (xs.filter fun x => decide (x ≠ N)) (nd.filter _) fun x hx => by
      obtain ⟨a, b⟩ := List.mem_filter.mp hx
      have := h x a
      have : x ≠ N := by simpa using b
      omega
    have h2 : xs.length ≤ (xs.filter fun x => decide (x ≠ N)).length + 1 := by
      clear h1 h
      induction xs with
      | nil => simp
      | cons y ys ih =>
        rw [List.nodup_cons] at nd
        by_cases e : y = N
        · subst e
          have : (ys.filter fun x => decide (x ≠ y)) = ys := by
            rw [List.filter_eq_self]
            intro z hz
            simp
            rintro rfl
            exact nd.1 hz
          rw [List.filter_cons, if_neg (by simp), this, List.length_cons]
          exact Nat.le_refl _
        · have := ih nd.2
          rw [List.filter_cons, if_pos (by simpa using e), List.length_cons, List.length_cons]
          omega
    omega
def keyL (t : List Int) : List Key := t.map Sum.inl
theorem keyL_kV (t : List Int) : (keyL t).map kV = t.map V.int := by unfold keyL; rw [List.map_map]; rfl
theorem keyL_inj : ∀ {t u : List Int}, keyL t = keyL u → t = u
  | [], [], _ => rfl
  | [], _ :: _, h => by simp [keyL] at h
  | _ :: _, [], h => by simp [keyL] at h
  | x :: t, y :: u, h => by
    simp only [keyL, List.map_cons, List.cons.injEq, Sum.inl.injEq] at h
    rw [h.1, keyL_inj (t := t) (u := u) h.2]
theorem keyL_iff {t u : List Int} : keyL t = keyL u ↔ t = u := ⟨keyL_inj, fun e => by rw [e]⟩
def tabK (D : Tab) : List (List Key × V) := D.map fun x => (keyL x.1, V.int x.2)
theorem tabK_len (D : Tab) : (tabK D).length = D.length := by unfold tabK; rw [List.length_map]
theorem tabK_put (D : Tab) (k : List Int) (v : Int) : putK (tabK D) (keyL k) (.int v) = tabK (putD D k v) := by
  have e : ((tabK D).any fun kv => decide (kv.1 = keyL k)) = (D.any fun x => decide (x.1 = k)) := by
    unfold tabK
    rw [List.any_map]
    congr 1
    funext x
    simp only [Function.comp, keyL_iff]
  unfold putK putD
  rw [e]
  split
  · unfold tabK
    rw [List.map_map, List.map_map]
    refine List.map_congr_left fun x _ => ?_
    simp only [Function.comp, keyL_iff]
    split <;> rfl
  · unfold tabK
    rw [List.map_append]
    rfl
theorem tabK_val (D : Tab) (k : List Int) : valV (tabK D) (keyL k) = (D.find? fun x => decide (x.1 = k)).map fun x => V.int x.2 := by
  unfold valV tabK
  rw [List.find?_map, Option.map_map]
  have : ((fun kv : List Key × V => decide (kv.1 = keyL k)) ∘ fun x : List Int × Int => (keyL x.1, V.int x.2)) = fun x => decide (x.1 = k) := by
    funext x
    simp only [Function.comp, keyL_iff]
  rw [this]
  rfl
theorem tabK_get (D : Tab) (k : List Int) : (valV (tabK D) (keyL k)).getD (.int 0) = .int (valD D k) := by
  rw [tabK_val]
  unfold valD
  cases D.find? fun x => decide (x.1 = k) <;> rfl
theorem tabK_at {D : Tab} (nd : (D.map (·.1)).Nodup) {x : List Int × Int} (h : x ∈ D) : valV (tabK D) (keyL x.1) = some (.int x.2) := by
  rw [tabK_val]
  have : D.find? (fun y => decide (y.1 = x.1)) = some x := by
    induction D with
    | nil => simp at h
    | cons y D ih =>
      rw [List.map_cons, List.nodup_cons] at nd
      rcases List.mem_cons.mp h with rfl | h
      · simp
      · have : y.1 ≠ x.1 := fun e => nd.1 (List.mem_map.mpr ⟨x, h, e.symm⟩)
        rw [List.find?_cons, decide_eq_false this]
        exact ih nd.2 h
  rw [this]
  rfl
theorem tabK_vals (D : Tab) : (tabK D).map (·.2) = (D.map (·.2)).map V.int := by unfold tabK; rw [List.map_map, List.map_map]; rfl
def prD (x : List Int × Int) : D := .t [tI x.1, .i x.2]
theorem count_at (l : List Lf) (x : Lf) : (List.range l.length).countP (fun j => decide (l.getD j (0, 0, 0) = x)) = l.count x := by
  have e : (List.range l.length).map (fun j => l.getD j (0, 0, 0)) = l := by
    apply List.ext_getElem?
    intro i
    rw [List.getElem?_map]
    rcases Nat.lt_or_ge i l.length with c | c
    · rw [List.getElem?_range c]
      simp [List.getD, c]
    · rw [List.getElem?_eq_none (by simpa using c), List.getElem?_eq_none c]; rfl
  conv => rhs; rw [← e]
  rw [List.count, List.countP_map]
  congr 1
  funext j
  simp only [Function.comp]
  exact (Bool.beq_eq_decide_eq _ _).symm
theorem count_sum : ∀ (l S : List Lf), S.Nodup → (S.map fun m => l.count m).sum ≤ l.length
  | [], S, _ => by
    have : (S.map fun m => List.count m ([] : List Lf)) = S.map fun _ => 0 := by simp
    rw [this]
    induction S with
    | nil => simp
    | cons a S ih => rename_i nd; simpa using ih (List.nodup_cons.mp nd).2
  | x :: l, S, nd => by
    have ih := count_sum l S nd
    have : (S.map fun m => (x :: l).count m).sum ≤ (S.map fun m => l.count m).sum + 1 ∧ (x ∉ S → (S.map fun m => (x :: l).count m).sum = (S.map fun m => l.count m).sum) := by
      clear ih
      induction S with
      | nil => simp
      | cons a S ih =>
        obtain ⟨n1, n2⟩ := List.nodup_cons.mp nd
        obtain ⟨i1, i2⟩ := ih n2
        simp only [List.map_cons, List.sum_cons]
        by_cases e : x = a
        · subst e
          have := i2 n1
          rw [List.count_cons_self]
          exact ⟨by omega, fun h => absurd (by simp) h⟩
        · have e' : List.count a (x :: l) = List.count a l := List.count_cons_of_ne e
          rw [e']
          exact ⟨by omega, fun h => by rw [i2 (fun z => h (by simp [z]))]⟩
    rw [List.length_cons]
    omega
/-! tables whose keys hold few things in each gap -/
def chB26 : Bool := (List.range 27).all fun n => (List.range (n + 1)).all fun k => decide (0 ≤ chF (n : Int) k) && decide (chF (n : Int) k ≤ 10400600) && (decide (3 < k) || decide (chF (n : Int) k ≤ 2600))
theorem chB26_ok : chB26 = true := by decide +kernel
theorem ch_le {n : Int} {k : Nat} (h1 : (k : Int) ≤ n) (h2 : n ≤ 26) : 0 ≤ chF n k ∧ chF n k ≤ 10400600 ∧ (k ≤ 3 → chF n k ≤ 2600) := by
  obtain ⟨m, rfl⟩ := Int.eq_ofNat_of_zero_le (show 0 ≤ n by omega)
  have h := chB26_ok
  unfold chB26 at h
  rw [List.all_eq_true] at h
  have h := h m (List.mem_range.mpr (by omega))
  rw [List.all_eq_true] at h
  have h := h k (List.mem_range.mpr (by omega))
  simp only [Bool.and_eq_true, Bool.or_eq_true, decide_eq_true_eq] at h
  exact ⟨h.1.1, h.1.2, fun h3 => by rcases h.2 with z | z; omega; exact z⟩
theorem mem_le_sum : ∀ {r : List Nat} {x : Nat}, x ∈ r → x ≤ r.sum
  | y :: r, x, h => by
    rw [List.sum_cons]
    rcases List.mem_cons.mp h with rfl | h
    · omega
    · have := mem_le_sum h
      omega
theorem addR_get : ∀ {r : List Nat} {t : List Int} {p i : Nat}, p + r.length ≤ t.length → (addR t p r).length = t.length ∧ (addR t p r).getD i 0 = t.getD i 0 + (if p ≤ i ∧ i < p + r.length then ((r.getD (i - p) 0 : Nat) : Int) else 0)
  | [], t, p, i, _ => by
    rw [if_neg (by simp)]
    simp [addR]
  | s :: r, t, p, i, h => by
    have hp : p < t.length := by simp at h; omega
    obtain ⟨e1, e2⟩ := addR_get (r := r) (t := wmF t p (s : Int)) (p := p + 1) (i := i) (by rw [wm_len]; simp at h; omega)
    unfold addR
    refine ⟨by rw [e1, wm_len], ?_⟩
    rw [e2, wm_at hp]
    simp only [List.length_cons]
    by_cases c : p = i
    · subst c
      rw [if_pos rfl, if_neg (by omega), if_pos (by omega), Nat.sub_self]
      simp
    · rw [if_neg c]
      by_cases d : p + 1 ≤ i ∧ i < p + 1 + r.length
      · rw [if_pos d, if_pos (by omega), show i - p = (i - (p + 1)) + 1 by omega, List.getD_cons_succ]
        omega
      · rw [if_neg d, if_neg (by omega)]
        omega
/-- keys of length d, in gap i at most C i -/
def KC (d : Nat) (C : Nat → Int) (t : List Int) : Prop := t.length = d ∧ ∀ i : Nat, 0 ≤ t.getD i 0 ∧ t.getD i 0 ≤ C i
theorem KC.add {d p : Nat} {C C' : Nat → Int} {t : List Int} {r : List Nat} (h : KC d C t) (hl : p + r.length ≤ d) (h1 : ∀ i, C i ≤ C' i) (h2 : ∀ i, p ≤ i → i < p + r.length → C i + (r.sum : Nat) ≤ C' i) : KC d C' (addR t p r) := by
  refine ⟨by rw [(addR_get (i := 0) (by rw [h.1]; exact hl)).1, h.1], fun i => ?_⟩
  rw [(addR_get (i := i) (by rw [h.1]; exact hl)).2]
  have a := h.2 i
  have b := h1 i
  by_cases c : p ≤ i ∧ i < p + r.length
  · rw [if_pos c]
    have e := h2 i c.1 c.2
    have : r.getD (i - p) 0 ≤ r.sum := by
      rw [List.getD_eq_getElem?_getD, List.getElem?_eq_getElem (show i - p < r.length by omega)]
      exact mem_le_sum (List.getElem_mem _)
    omega
  · rw [if_neg c]
    omega
structure TabP (K : List Int → Prop) (D : Tab) : Prop where
  nd : (D.map (·.1)).Nodup
  key : ∀ x ∈ D, K x.1
theorem TabP.nil {K : List Int → Prop} : TabP K [] := ⟨by simp, fun _ h => nomatch h⟩
theorem TabP.add {K : List Int → Prop} {D : Tab} (h : TabP K D) {k : List Int} {v : Int} (hk : K k) : TabP K (addD D k v) := by
  refine ⟨nd_put h.nd _ _, fun x hx => ?_⟩
  have : x.1 ∈ (putD D k (valD D k + v)).map (·.1) := List.mem_map_of_mem hx
  rw [keys_put] at this
  have : x.1 ∈ D.map (·.1) ∨ x.1 = k := by
    split at this
    · exact .inl this
    · rcases List.mem_append.mp this with h | h
      · exact .inl h
      · exact .inr (by simpa using h)
  rcases this with h' | h'
  · obtain ⟨y, hy, e⟩ := List.mem_map.mp h'
    rw [← e]
    exact h.key y hy
  · rw [h']; exact hk
def RowsP (p : Nat) (K K' : List Int → Prop) (rs : List (List Nat)) : Prop := ∀ r ∈ rs, ∀ t, K t → K' (addR t p r)
theorem inP_w {K K' : List Int → Prop} {p : Nat} {t : List Int} {v : Int} (h : K t) (g : List Int → Int) : ∀ {rs : List (List Nat)} {acc : Tab}, RowsP p K K' rs → TabP K' acc → TabP K' (inP t v p rs acc) ∧ sumD (inP t v p rs acc) g = sumD acc g + v * rsum g p rs t
  | [], acc, _, ha => by simp [inP, rsum, ha]
  | r :: rs, acc, hr, ha => by
    have a1 := ha.add (v := v * rowP t p r) (hr r (by simp) t h)
    obtain ⟨b1, b2⟩ := inP_w (v := v) h g (rs := rs) (fun r' h' => hr r' (by simp [h'])) a1
    refine ⟨b1, ?_⟩
    show sumD (inP t v p rs (addD acc (addR t p r) (v * rowP t p r))) g = _
    rw [b2, sum_add ha.nd]
    simp only [rsum, List.map_cons, List.sum_cons]
    rw [Int.mul_add, Int.mul_assoc]
    omega
theorem stP_w {K K' : List Int → Prop} {p : Nat} {rs : List (List Nat)} (hr : RowsP p K K' rs) (g : List Int → Int) : ∀ {xs acc : Tab}, (∀ x ∈ xs, K x.1) → TabP K' acc → TabP K' (stP p rs xs acc) ∧ sumD (stP p rs xs acc) g = sumD acc g + sumD xs (rsum g p rs)
  | [], acc, _, ha => by simp [stP, sumD, ha]
  | x :: xs, acc, hx, ha => by
    obtain ⟨a1, a2⟩ := inP_w (v := x.2) (hx x (by simp)) g hr ha
    obtain ⟨b1, b2⟩ := stP_w hr g (xs := xs) (fun y hy => hx y (by simp [hy])) a1
    refine ⟨b1, ?_⟩
    show sumD (stP p rs xs (inP x.1 x.2 p rs acc)) g = _
    rw [b2, a2]
    simp only [sumD, List.map_cons, List.sum_cons]
    omega
def enc : List Int → Nat
  | [] => 0
  | x :: t => x.toNat + 27 * enc t
theorem enc_lt : ∀ {t : List Int}, (∀ i : Nat, 0 ≤ t.getD i 0 ∧ t.getD i 0 ≤ 26) → enc t < 27 ^ t.length
  | [], _ => by simp [enc]
  | x :: t, h => by
    have h0 := h 0
    have ih := enc_lt (t := t) fun i => by have := h (i + 1); simpa using this
    simp only [List.getD_cons_zero] at h0
    unfold enc
    rw [List.length_cons, Nat.pow_succ]
    omega
theorem enc_inj : ∀ {t u : List Int}, t.length = u.length → (∀ i : Nat, 0 ≤ t.getD i 0 ∧ t.getD i 0 ≤ 26) → (∀ i : Nat, 0 ≤ u.getD i 0 ∧ u.getD i 0 ≤ 26) → enc t = enc u → t = u
  | [], [], _, _, _, _ => rfl
  | [], _ :: _, h, _, _, _ => absurd h (by simp)
  | _ :: _, [], h, _, _, _ => absurd h (by simp)
  | x :: t, y :: u, hl, ht, hu, e => by
    have h0 := ht 0
    have h1 := hu 0
    simp only [List.getD_cons_zero] at h0 h1
    unfold enc at e
    have ih := enc_inj (t := t) (u := u) (by simpa using hl) (fun i => by have := ht (i + 1); simpa using this) (fun i => by have := hu (i + 1); simpa using this) (by omega)
    rw [ih, show x = y by omega]
theorem TabP.size {d : Nat} {C : Nat → Int} {D : Tab} (h : TabP (KC d C) D) (hd : d ≤ 4) (hC : ∀ i, C i ≤ 26) : D.length ≤ 1048576 := by
  have hb : ∀ x ∈ D, ∀ i : Nat, 0 ≤ x.1.getD i 0 ∧ x.1.getD i 0 ≤ 26 := fun x hx i => by
    have := (h.key x hx).2 i
    have := hC i
    omega
  have := nodup_lt (27 ^ d) (D.map fun x => enc x.1) ?_ ?_
  · rw [List.length_map] at this
    have : 27 ^ d ≤ 27 ^ 4 := Nat.pow_le_pow_right (by decide) hd
    omega
  · have nd := h.nd
    unfold List.Nodup at nd ⊢
    rw [List.pairwise_map] at nd ⊢
    refine List.Pairwise.imp_of_mem (fun {a b} ha hb' hne e => hne ?_) nd
    exact enc_inj (by rw [(h.key a ha).1, (h.key b hb').1]) (hb a ha) (hb b hb') e
  · intro x hx
    obtain ⟨y, hy, rfl⟩ := List.mem_map.mp hx
    have := enc_lt (hb y hy)
    rw [(h.key y hy).1] at this
    exact this
theorem rowP_3 : ∀ {r : List Nat} {t : List Int} {p : Nat}, (∀ i : Nat, 0 ≤ t.getD i 0) → (∀ i : Nat, i < r.length → t.getD (p + i) 0 + ((r.getD i 0 : Nat) : Int) ≤ 26 ∧ r.getD i 0 ≤ 3) → 0 ≤ rowP t p r ∧ rowP t p r ≤ 2600 ^ r.length
  | [], t, p, _, _ => by simp [rowP]
  | s :: r, t, p, h, hs => by
    have a0 := hs 0 (by simp)
    simp only [List.getD_cons_zero, Nat.add_zero] at a0
    have a2 := h p
    obtain ⟨c1, _, c2⟩ := ch_le (n := t.getD p 0 + (s : Int)) (k := s) (by omega) (by omega)
    obtain ⟨q1, q2⟩ := rowP_3 (r := r) (t := t) (p := p + 1) h fun i hi => by
      have := hs (i + 1) (by simpa using hi)
      rwa [List.getD_cons_succ, show p + (i + 1) = p + 1 + i by omega] at this
    unfold rowP
    refine ⟨Int.mul_nonneg c1 q1, ?_⟩
    rw [List.length_cons, Int.pow_succ, Int.mul_comm]
    exact Int.mul_le_mul q2 (c2 a0.2) c1 (Int.pow_nonneg (by decide))
theorem rowP_w {r : List Nat} {t : List Int} {p g a : Nat} (h : ∀ i : Nat, 0 ≤ t.getD i 0) (hr : r.length = g + 1 ∧ r.sum = a) (hs : ∀ i : Nat, p ≤ i → i ≤ p + g → t.getD i 0 + (a : Int) ≤ 26) (hg : g ≤ 3) (ha : g = 0 ∨ a ≤ 3) : -(2 ^ 64) < rowP t p r ∧ rowP t p r < 2 ^ 64 := by
  have le : ∀ i : Nat, i < r.length → r.getD i 0 ≤ a := fun i hi => by
    rw [← hr.2, List.getD_eq_getElem?_getD, List.getElem?_eq_getElem hi]
    exact mem_le_sum (List.getElem_mem _)
  rcases ha with rfl | ha
  · match r, hr with
    | [s], hr =>
      have es : s = a := by simpa using hr.2
      have := hs p (Nat.le_refl _) (by omega)
      have h0 := h p
      obtain ⟨c1, c2, _⟩ := ch_le (n := t.getD p 0 + (s : Int)) (k := s) (by omega) (by omega)
      unfold rowP rowP
      rw [Int.mul_one]
      omega
    | [], hr => exact absurd hr.1 (by simp)
    | a :: b :: r, hr => exact absurd hr.1 (by simp)
  · obtain ⟨q1, q2⟩ := rowP_3 (r := r) (t := t) (p := p) h fun i hi => by
      have := hs (p + i) (by omega) (by omega)
      have := le i hi
      omega
    have : (2600 : Int) ^ r.length ≤ 2600 ^ 4 := by
      have hl : r.length ≤ 4 := by omega
      have : ∀ n : Nat, n ≤ 4 → (2600 : Int) ^ n ≤ 2600 ^ 4 := by decide
      exact this _ hl
    omega
/-! how many marks may stand in a gap -/
def cov (q : Nat) (m : Lf) : Bool := decide (m.1 - 1 ≤ (q : Int)) && decide ((q : Int) < m.2.1 - 1)
def capF (mk S : List Lf) (q : Nat) : Int := ((S.map fun m => (mk.filter (cov q)).count m).sum : Nat)
def MkW (d : Nat) (mk : List Lf) : Prop := (∀ m ∈ mk, 1 ≤ m.1 ∧ m.1 < m.2.1 ∧ m.2.1 ≤ (d : Int) + 1) ∧ mk.length ≤ 500 ∧ (∀ q : Nat, (mk.filter (cov q)).length ≤ 26) ∧ (∀ m ∈ mk, m.1 + 1 < m.2.1 → mk.count m ≤ 3) ∧ (sset mk).length < 60
theorem cap_le {mk S : List Lf} (hS : S.Nodup) (h : ∀ q : Nat, (mk.filter (cov q)).length ≤ 26) (q : Nat) : capF mk S q ≤ 26 := by
  have := count_sum (mk.filter (cov q)) S hS
  have := h q
  unfold capF
  omega
theorem cap_step {mk S : List Lf} {x : Lf} (q : Nat) : capF mk (S ++ [x]) q = capF mk S q + ((mk.filter (cov q)).count x : Nat) := by
  unfold capF
  rw [List.map_append, List.sum_append]
  simp
theorem cap_cov {mk : List Lf} {x : Lf} {q : Nat} (h : cov q x = true) : (mk.filter (cov q)).count x = mk.count x := List.count_filter h

/-! templates as they are drawn -/
def endF (ps : List Lf) : Int := if (ps.map (·.2.1)).length = 0 then 1 else maxL (ps.map (·.2.1))
def okN (ps : List Lf) (room : Int) (p : Lf) : Bool := decide (2 ≤ (p.2.1 - p.1) * p.2.2) && decide ((p.2.1 - p.1) * p.2.2 ≤ room + 1) && (decide (ps ≠ []) || decide (p.1 = 0))
def moreF (ps : List Lf) (room : Int) : List Lf := (List.range (endF ps).toNat).flatMap fun l : Nat => (List.range ((endF ps).toNat + 3 - l)).flatMap fun h : Nat => ((List.range 4).map fun w : Nat => (((l : Int), (l : Int) + 1 + (h : Int), 1 + (w : Int)) : Lf)).filter (okN ps room)
theorem more_in {ps : List Lf} {room : Int} {p : Lf} (h1 : 0 ≤ p.1) (h2 : p.1 < endF ps) (h3 : p.1 < p.2.1) (h4 : p.2.1 ≤ endF ps + 3) (h5 : 1 ≤ p.2.2) (h6 : p.2.2 ≤ 4) (h : okN ps room p = true) : p ∈ moreF ps room := by
  refine List.mem_flatMap.mpr ⟨p.1.toNat, List.mem_range.mpr (by omega), List.mem_flatMap.mpr ⟨(p.2.1 - p.1 - 1).toNat, List.mem_range.mpr (by omega), List.mem_filter.mpr ⟨List.mem_map.mpr ⟨(p.2.2 - 1).toNat, List.mem_range.mpr (by omega), ?_⟩, h⟩⟩⟩
  obtain ⟨a, b, c⟩ := p
  dsimp only at h1 h3 h5 ⊢
  rw [show ((a.toNat : Nat) : Int) = a by omega, show a + 1 + ((b - a - 1).toNat : Int) = b by omega, show 1 + ((c - 1).toNat : Int) = c by omega]
def lev (k : Int) : Nat → List (List Lf)
  | 0 => [[]]
  | n + 1 => (lev k n).flatMap fun ps => if crossF ps < k then (moreF ps (k - crossF ps)).map fun p => ps ++ [p] else []
theorem lev_add {k : Int} {n : Nat} {ps : List Lf} {p : Lf} (h : ps ∈ lev k n) (hc : crossF ps < k) (hp : p ∈ moreF ps (k - crossF ps)) : ps ++ [p] ∈ lev k (n + 1) := by
  refine List.mem_flatMap.mpr ⟨ps, h, ?_⟩
  rw [if_pos hc]
  exact List.mem_map_of_mem hp
def insD (x : Lf) : List Lf → List Lf
  | [] => [x]
  | y :: ys => if ltLf y x then y :: insD x ys else x :: y :: ys
def srtF (ps : List Lf) : List Lf := ps.foldr insD []
def TL : List (List Lf) := [[(0, 1, 2)], [(0, 2, 1)], [(0, 1, 2), (0, 1, 2)], [(0, 1, 2), (0, 2, 1)], [(0, 1, 3)], [(0, 2, 1), (0, 2, 1)], [(0, 2, 1), (1, 2, 2)], [(0, 2, 1), (1, 3, 1)], [(0, 3, 1)], [(0, 1, 2), (0, 1, 2), (0, 1, 2)], [(0, 1, 2), (0, 1, 2), (0, 2, 1)], [(0, 1, 2), (0, 1, 3)], [(0, 1, 2), (0, 2, 1), (0, 2, 1)], [(0, 1, 2), (0, 2, 1), (1, 2, 2)], [(0, 1, 2), (0, 2, 1), (1, 3, 1)], [(0, 1, 2), (0, 3, 1)], [(0, 1, 3), (0, 2, 1)], [(0, 1, 4)], [(0, 2, 1), (0, 2, 1), (0, 2, 1)], [(0, 2, 1), (0, 2, 1), (1, 2, 2)], [(0, 2, 1), (0, 2, 1), (1, 3, 1)], [(0, 2, 1), (0, 3, 1)], [(0, 2, 1), (1, 2, 2), (1, 2, 2)], [(0, 2, 1), (1, 2, 2), (1, 3, 1)], [(0, 2, 1), (1, 2, 3)], [(0, 2, 1), (1, 3, 1), (1, 3, 1)], [(0, 2, 1), (1, 3, 1), (2, 3, 2)], [(0, 2, 1), (1, 3, 1), (2, 4, 1)], [(0, 2, 1), (1, 4, 1)], [(0, 2, 2)], [(0, 3, 1), (1, 2, 2)], [(0, 3, 1), (1, 3, 1)], [(0, 3, 1), (2, 3, 2)], [(0, 3, 1), (2, 4, 1)], [(0, 4, 1)]]
def levB (k : Int) (n : Nat) (ps : List Lf) : Bool := decide (ps.length = n) && decide ((n : Int) ≤ crossF ps) && decide (crossF ps ≤ k) && (ps.all fun p => decide (0 ≤ p.1) && decide (p.1 < p.2.1) && decide (p.2.1 ≤ 1 + 3 * (n : Int)) && decide (1 ≤ p.2.2) && decide (p.2.2 ≤ 4)) &&
  (decide (crossF ps < k) || (decide (srtF ps ∈ TL) && (srtF ps).isPerm ps && decide ((srtF ps).Pairwise fun a b => ltLf b a = false)))
theorem lev_all : ([1, 2, 3].all fun k : Nat => (List.range 4).all fun n => (lev (k : Int) n).all (levB (k : Int) n)) = true := by decide +kernel
theorem lev_ok {k : Nat} {n : Nat} {ps : List Lf} (h1 : 1 ≤ k) (h3 : k ≤ 3) (hn : n ≤ 3) (h : ps ∈ lev (k : Int) n) : levB (k : Int) n ps = true := by
  have a := lev_all
  rw [List.all_eq_true] at a
  have a := a k (by have : k = 1 ∨ k = 2 ∨ k = 3 := by omega
                    rcases this with rfl | rfl | rfl <;> simp)
  rw [List.all_eq_true] at a
  have a := a n (List.mem_range.mpr (by omega))
  rw [List.all_eq_true] at a
  exact a ps h
/-! the words of a template at a place -/
def marksF (ps : List Lf) (pl : Int) : List Lf := (ps.map fun p => (p.1 + 1, p.2.1 + 1, p.2.2)) ++ (List.range (lenF ps).toNat).flatMap fun i : Nat => List.replicate (pl + (1 + (i : Int)) - 1 - loadF ps (1 + (i : Int))).toNat ((1 + (i : Int), 1 + (i : Int) + 1, 1) : Lf)
def wordsF (ps : List Lf) (pl : Int) : Int := if pl < maxL (leastL ps (lenF ps).toNat) then 0 else hmF (lenF ps).toNat (marksF ps pl)
def shF (ps : List Lf) (pl : Int) (n : Nat) : List Int := (List.range n).map fun i : Nat => pl + (1 + (i : Int)) - 1 - loadF ps (1 + (i : Int))
def piF (rows : List (List Int × Int)) (p : Lf) : List (List Int × Int) := (List.range (p.2.1 - p.1).toNat).flatMap fun g : Nat => rows.map fun r => (wmF r.1 (p.1.toNat + g) 1, r.2 * (wmF r.1 (p.1.toNat + g) 1).getD (p.1.toNat + g) 0)
def alF (ps : List Lf) : Int := (List.range ps.length).foldl (fun a k => a * (((ps.take (k + 1)).count (ps.getD k (0, 0, 0)) : Nat) : Int)) 1
def dueF (ps : List Lf) (pl : Int) : Int := if minL (shF ps pl (lenF ps).toNat) < 0 then 0 else ((ps.foldl piF [(shF ps pl (lenF ps).toNat, 1)]).map (·.2)).sum / alF ps
def mkWb (d : Nat) (mk : List Lf) : Bool := (sset mk).all (fun m => decide (1 ≤ m.1) && decide (m.1 < m.2.1) && decide (m.2.1 ≤ (d : Int) + 1) && (decide (m.2.1 ≤ m.1 + 1) || decide (mk.count m ≤ 3))) && decide (mk.length ≤ 500) && ((List.range 4).all fun q => decide ((mk.filter (cov q)).length ≤ 26)) && decide ((sset mk).length < 60)
def plB (ps : List Lf) (pl : Int) : Bool := decide (wordsF ps pl = dueF ps pl) && (decide (pl < maxL (leastL ps (lenF ps).toNat)) || mkWb (lenF ps).toNat (marksF ps pl))
def okB (ps : List Lf) : Bool := decide (1 ≤ lenF ps) && decide (lenF ps ≤ 4) && decide (ps.length ≤ 3) && (ps.all fun p => decide (0 ≤ p.1) && decide (p.1 < p.2.1) && decide (p.2.1 ≤ 4) && decide (1 ≤ p.2.2) && decide (p.2.2 ≤ 4)) && (ps.any fun p => decide (p.1 = 0)) && ((List.range 4).all fun i => decide (0 ≤ loadF ps (1 + (i : Int)))) && decide (0 < alF ps) && decide (alF ps ≤ 1000)
def tplB (ps : List Lf) : Bool := okB ps && (List.range 20).all fun i => plB ps (1 + (i : Int))
theorem t62_a : (TL.take 9).all tplB = true := by decide +kernel
theorem t62_b : ((TL.drop 9).take 9).all tplB = true := by decide +kernel
theorem t62_c : ((TL.drop 18).take 9).all tplB = true := by decide +kernel
theorem t62_d : (TL.drop 27).all tplB = true := by decide +kernel
theorem t62 {ps : List Lf} (h : ps ∈ TL) : tplB ps = true := by
  have e : TL = TL.take 9 ++ ((TL.drop 9).take 9 ++ ((TL.drop 18).take 9 ++ TL.drop 27)) := by decide +kernel
  rw [e] at h
  rcases List.mem_append.mp h with h | h
  · exact List.all_eq_true.mp t62_a ps h
  rcases List.mem_append.mp h with h | h
  · exact List.all_eq_true.mp t62_b ps h
  rcases List.mem_append.mp h with h | h
  · exact List.all_eq_true.mp t62_c ps h
  · exact List.all_eq_true.mp t62_d ps h
theorem mkW_of {d : Nat} {mk : List Lf} (hd : d ≤ 4) (sm : ∀ z, z ∈ sset mk ↔ z ∈ mk) (h : mkWb d mk = true) : MkW d mk := by
  unfold mkWb at h
  rw [Bool.and_eq_true, Bool.and_eq_true, Bool.and_eq_true, List.all_eq_true, List.all_eq_true] at h
  obtain ⟨⟨⟨h1, h2⟩, h3⟩, h4⟩ := h
  have hm : ∀ m ∈ mk, 1 ≤ m.1 ∧ m.1 < m.2.1 ∧ m.2.1 ≤ (d : Int) + 1 ∧ (m.2.1 ≤ m.1 + 1 ∨ mk.count m ≤ 3) := fun m hm => by
    have := h1 m ((sm m).mpr hm)
    simp only [Bool.and_eq_true, Bool.or_eq_true, decide_eq_true_eq] at this
    exact ⟨this.1.1.1, this.1.1.2, this.1.2, this.2⟩
  refine ⟨fun m h => ⟨(hm m h).1, (hm m h).2.1, (hm m h).2.2.1⟩, of_decide_eq_true h2, fun q => ?_, fun m h hl => ?_, of_decide_eq_true h4⟩
  · by_cases hq : q < 4
    · exact of_decide_eq_true (h3 q (List.mem_range.mpr hq))
    · have : mk.filter (cov q) = [] := by
        rw [List.filter_eq_nil_iff]
        intro m hmm
        have := hm m hmm
        unfold cov
        rw [Bool.and_eq_true, decide_eq_true_eq, decide_eq_true_eq]
        omega
      rw [this]
      exact Nat.zero_le _
  · rcases (hm m h).2.2.2 with z | z
    · omega
    · exact z
theorem lev_facts {k : Int} {n : Nat} {ps : List Lf} (hn : n ≤ 3) (h : levB k n ps = true) : ps.length = n ∧ (n : Int) ≤ crossF ps ∧ crossF ps ≤ k ∧ (∀ p ∈ ps, OkP p) ∧ (∀ p ∈ ps, p.2.1 ≤ 1 + 3 * (n : Int)) ∧ (crossF ps < k ∨ (srtF ps ∈ TL ∧ (srtF ps).Perm ps ∧ (srtF ps).Pairwise fun a b => ltLf b a = false)) := by
  unfold levB at h
  simp only [Bool.and_eq_true, Bool.or_eq_true, decide_eq_true_eq, List.all_eq_true, List.isPerm_iff] at h
  obtain ⟨⟨⟨⟨h1, h2⟩, h3⟩, h4⟩, h5⟩ := h
  refine ⟨h1, h2, h3, fun p hp => ?_, fun p hp => (h4 p hp).1.1.2, h5.imp id fun z => ⟨z.1.1, z.1.2, z.2⟩⟩
  obtain ⟨⟨⟨⟨a, b⟩, c⟩, d⟩, e⟩ := h4 p hp
  exact ⟨a, b, by omega, d, e⟩
structure Tpl (ps : List Lf) : Prop where
  l1 : 1 ≤ lenF ps
  l4 : lenF ps ≤ 4
  len : ps.length ≤ 3
  ok : ∀ p ∈ ps, 0 ≤ p.1 ∧ p.1 < p.2.1 ∧ p.2.1 ≤ 4 ∧ 1 ≤ p.2.2 ∧ p.2.2 ≤ 4
  any : ∃ p ∈ ps, p.1 = 0
  load : ∀ i : Nat, i < 4 → 0 ≤ loadF ps (1 + (i : Int))
  a1 : 0 < alF ps
  a2 : alF ps ≤ 1000
  pl : ∀ z : Int, 1 ≤ z → z ≤ 20 → plB ps z = true
theorem tpl_of {ps : List Lf} (h : ps ∈ TL) : Tpl ps := by
  have a := t62 h
  unfold tplB okB at a
  simp only [Bool.and_eq_true, decide_eq_true_eq, List.all_eq_true, List.any_eq_true, List.mem_range] at a
  obtain ⟨⟨⟨⟨⟨⟨⟨⟨h1, h2⟩, h3⟩, h4⟩, h5⟩, h6⟩, h7⟩, h8⟩, h9⟩ := a
  refine ⟨h1, h2, h3, fun p hp => ?_, h5, h6, h7, h8, fun z z1 z2 => ?_⟩
  · obtain ⟨⟨⟨⟨a, b⟩, c⟩, d⟩, e⟩ := h4 p hp
    exact ⟨a, b, c, d, e⟩
  · have := h9 (z - 1).toNat (by omega)
    rwa [show 1 + ((z - 1).toNat : Int) = z by omega] at this
theorem Tpl.okt {ps : List Lf} (h : Tpl ps) : OkT ps := ⟨by have := h.len; omega, fun p hp => by
  obtain ⟨a, b, c, d, e⟩ := h.ok p hp
  exact ⟨a, b, by omega, d, e⟩, h.any⟩
theorem Tpl.eq {ps : List Lf} (h : Tpl ps) {z : Int} (z1 : 1 ≤ z) (z2 : z ≤ 20) : wordsF ps z = dueF ps z := by
  have := h.pl z z1 z2
  unfold plB at this
  rw [Bool.and_eq_true, decide_eq_true_eq] at this
  exact this.1
theorem Tpl.ne {ps : List Lf} (h : Tpl ps) : ps ≠ [] := fun z => by
  obtain ⟨p, hp, _⟩ := h.any
  rw [z] at hp
  cases hp

theorem asc_pw {yss : List (List Int)} (h : ∀ i j, i < j → j < yss.length → ltI (yss.getD j []) (yss.getD i []) = false) : yss.Pairwise fun x y => ltI y x = false := by
  rw [List.pairwise_iff_getElem]
  intro i j hi hj hij
  have := h i j hij hj
  rw [List.getD_eq_getElem?_getD, List.getD_eq_getElem?_getD, List.getElem?_eq_getElem hi, List.getElem?_eq_getElem hj] at this
  exact this
theorem asc_eq {yss xss : List (List Int)} (hp : yss.Perm xss) (hl : ∀ x ∈ xss, x.length = 3) (h1 : ∀ i j, i < j → j < yss.length → ltI (yss.getD j []) (yss.getD i []) = false) (h2 : ∀ i j, i < j → j < xss.length → ltI (xss.getD j []) (xss.getD i []) = false) : yss = xss := by
  refine hp.eq_of_pairwise (fun a b ha hb e1 e2 => ?_) (asc_pw h1) (asc_pw h2)
  have la := hl a (hp.mem_iff.mp ha)
  have lb := hl b hb
  rw [ltI_same (by rw [la, lb])] at e1 e2
  exact lexI_anti (by rw [la, lb]) e2 e1
theorem rows_len {ps : List Lf} : ∀ x ∈ ps.map row3, x.length = 3 := fun x hx => by
  obtain ⟨p, _, rfl⟩ := List.mem_map.mp hx
  rfl

/-! the promises -/
abbrev Bag (H : Hp) (b : Addr) (far st : Int) : Prop := H b = some (.lst [.int far, .int st])
def spCell (K : PySem.W.Frag) : Sp := fun vs H Q _ => ∃ (a : Addr) (ns : List Int) (k : Int), vs = [.ref a, .int k] ∧ SqL K H a (ns.map V.int) ∧ 0 ≤ k ∧ ∀ z, Q (.int z) H
def spBag (_ : PySem.W.Frag) : Sp := fun vs H Q _ => ∃ (c pl : Int), vs = [.int c, .int pl] ∧ 0 ≤ pl ∧ pl ≤ 100000 ∧ ∀ (b : Addr) (far st : Int) (H' : Hp), Same H H' → H b = none → Bag H' b far st → 0 ≤ far → 0 ≤ st → Q (.ref b) H'
def spMixed (_ : PySem.W.Frag) : Sp := fun vs H Q _ => ∃ (b : Addr) (far st : Int), vs = [.ref b] ∧ Bag H b far st ∧ ∀ z st', 0 ≤ z → 0 ≤ st' → Q (.int z) (upd H b (.lst [.int far, .int st']))
def spDigit (_ : PySem.W.Frag) : Sp := fun vs H Q _ => ∃ (b : Addr) (many far st : Int), vs = [.ref b, .int many] ∧ Bag H b far st ∧ 0 ≤ far ∧ 0 ≤ st ∧ 0 < many ∧ many ≤ 10 ^ 60 ∧ ∀ z far' st', 0 ≤ z → z < many → 0 ≤ far' → 0 ≤ st' → Q (.int z) (upd H b (.lst [.int far', .int st']))
def But (b : Addr) (H H' : Hp) : Prop := ∀ c o, H c = some o → c ≠ b → H' c = some o
theorem But.of_same {b : Addr} {H H' : Hp} (s : Same H H') : But b H H' := fun c o e _ => s _ _ e
theorem But.trans {b : Addr} {H H' H'' : Hp} (s : But b H H') (t : But b H' H'') : But b H H'' := fun c o e n => t c o (s c o e n) n
theorem But.upd {b : Addr} {H : Hp} {o : HO} : But b H (L2.upd H b o) := fun c u e n => by rw [upd_ne n]; exact e
theorem is_but {b : Addr} {H H' : Hp} {zs : List V} {ps : List Lf} {a : Addr} (hb : H b = some (.lst zs)) (k : But b H H') (n : a ≠ b) (h : Is H (lfs ps) (.ref a)) : Is H' (lfs ps) (.ref a) := by
  obtain ⟨_, vs, e, ha, hi⟩ := of_l h
  cases e
  exact is_l (k _ _ ha n) (iss_lf (fun c xs e => k _ _ e (by rintro rfl; rw [hb] at e; cases e)) hi)
def sp_law (K : PySem.W.Frag) : Sp := fun vs H Q _ => ∃ (a : Addr) (ns : List Int), vs = [.ref a] ∧ SqL K H a (ns.map V.int) ∧ ns.length ≤ 63 ∧ ∀ H', Q (.bl true) H'
theorem cut_take {vs : List V} {k : Nat} : cutV vs none (some (k : Int)) = vs.take k := by
  unfold cutV
  rw [HT.sIx_nat, HT.sIx_none, List.drop_zero, Nat.sub_zero]
  exact List.take_eq_take_iff.mpr (by omega)
theorem cut_dropI {vs : List V} {i : Nat} (h : i ≤ vs.length) : cutV vs (some (i : Int)) none = vs.drop i := by
  unfold cutV
  rw [HT.sIx_nat, HT.sIx_none, Nat.min_eq_left h, List.take_of_length_le (by simp)]
theorem minL_le {ns : List Int} {i : Nat} (h : i < ns.length) : minL ns ≤ ns.getD i 0 := (argBest_lt (fun i => ns.getD i 0) (ns.length - 1)).2 i (by omega)
def spLen (_ : PySem.W.Frag) : Sp := fun vs H Q _ => ∃ (v : V) (ps : List Lf), vs = [v] ∧ Is H (lfs ps) v ∧ ps ≠ [] ∧ ps.length ≤ 20 ∧ ∀ H', Same H H' → Q (.int (lenF ps)) H'
def spLoad (_ : PySem.W.Frag) : Sp := fun vs H Q _ => ∃ (v : V) (ps : List Lf) (j : Int), vs = [v, .int j] ∧ Is H (lfs ps) v ∧ ps.length ≤ 20 ∧ ∀ H', Same H H' → Q (.int (loadF ps j)) H'
def spLeast (_ : PySem.W.Frag) : Sp := fun vs H Q _ => ∃ (v : V) (ps : List Lf), vs = [v] ∧ Is H (lfs ps) v ∧ OkT ps ∧ ∀ H', Same H H' → Q (.int (maxL (leastL ps (lenF ps).toNat))) H'
def spCross (_ : PySem.W.Frag) : Sp := fun vs H Q _ => ∃ (v : V) (ps : List Lf), vs = [v] ∧ Is H (lfs ps) v ∧ ps.length ≤ 20 ∧ (∀ p ∈ ps, OkP p) ∧ ∀ H', Same H H' → Q (.int (crossF ps)) H'
def OkM (ps : List Lf) (room : Int) (p : Lf) : Prop := 0 ≤ p.1 ∧ p.1 < p.2.1 ∧ p.2.1 ≤ 1 + 3 * (ps.length : Int) + 3 ∧ 1 ≤ p.2.2 ∧ p.2.2 ≤ 4 ∧ 2 ≤ (p.2.1 - p.1) * p.2.2 ∧ (p.2.1 - p.1) * p.2.2 ≤ room + 1 ∧ (ps ≠ [] ∨ p.1 = 0) ∧ p.1 < endF ps ∧ p.2.1 ≤ endF ps + 3
def spMore (_ : PySem.W.Frag) : Sp := fun vs H Q _ => ∃ (b dr : Addr) (ps : List Lf) (room far st : Int), vs = [.ref b, .ref dr, .int room] ∧ Bag H b far st ∧ 0 ≤ far ∧ 0 ≤ st ∧ dr ≠ b ∧ Is H (lfs ps) (.ref dr) ∧ ps.length ≤ 2 ∧ (∀ p ∈ ps, OkP p) ∧ (∀ p ∈ ps, p.2.1 ≤ 1 + 3 * (ps.length : Int)) ∧ 1 ≤ room ∧
  ∀ (p : Lf) (t : Addr) (far' st' : Int) (H' : Hp), But b H H' → Bag H' b far' st' → 0 ≤ far' → 0 ≤ st' → H' t = some (.tup [.int p.1, .int p.2.1, .int p.2.2]) → OkM ps room p → Q (.ref t) H'
theorem dep_lfs (ps : List Lf) : dep (lfs ps) ≤ 2 := by
  have : deps (ps.map lf) ≤ 1 := by
    induction ps with
    | nil => simp [deps]
    | cons p ps ih => simp [deps, lf, tI, row3, dep] at ih ⊢; omega
  unfold lfs dep
  omega
theorem eq_nil {K : PySem.W.Frag} {H : Hp} {ps : List Lf} {v u : V} (h : Is H (lfs ps) v) (k : Is H (.l []) u) : EqR K H 2 v u (decide (ps = [])) := by
  have e := h.eqr (K := K) (n := 2) (dep_lfs ps) (by unfold lfs Kin; cases ps <;> exact trivial) k
  have : eqD (lfs ps) (.l []) = decide (ps = []) := by cases ps <;> simp [lfs, eqD, eqDs]
  rwa [this] at e
def SoI (H0 H6 : Hp) (so : Addr) (ps : List Lf) (room : Int) (m : Nat) (ne : Prop) : Prop := Same H0 H6 ∧ ∃ (qs : List Lf) (vs : List V), H6 so = some (.lst vs) ∧ Iss H6 (qs.map lf) vs ∧ (∀ q ∈ qs, OkM ps room q) ∧ qs.length ≤ m ∧ (ne → qs ≠ [])
theorem SoI.weak {H0 H6 : Hp} {so : Addr} {ps : List Lf} {room : Int} {m m' : Nat} {ne ne' : Prop} (h : SoI H0 H6 so ps room m ne) (hm : m ≤ m') (hn : ne' → ne) : SoI H0 H6 so ps room m' ne' := by
  obtain ⟨s, qs, vs, h1, h2, h3, h4, h5⟩ := h
  exact ⟨s, qs, vs, h1, h2, h3, by omega, fun z => h5 (hn z)⟩
theorem SoI.new {H0 H6 H7 : Hp} {so : Addr} {ps : List Lf} {room : Int} {m : Nat} {ne : Prop} (h : SoI H0 H6 so ps room m ne) (s7 : Same H6 H7) : SoI H0 H7 so ps room m ne := by
  obtain ⟨s, qs, vs, h1, h2, h3, h4, h5⟩ := h
  exact ⟨s.trans s7, qs, vs, s7 _ _ h1, h2.mono s7, h3, h4, h5⟩
theorem SoI.app {H0 H6 : Hp} {so t : Addr} {ps : List Lf} {room : Int} {m : Nat} {ne ne' : Prop} {vs : List V} {p : Lf} (h : SoI H0 H6 so ps room m ne) (hv : H6 so = some (.lst vs)) (n0 : H0 so = none) (ht : H6 t = some (.tup [.int p.1, .int p.2.1, .int p.2.2])) (ok : OkM ps room p) : SoI H0 (upd H6 so (.lst (vs ++ [.ref t]))) so ps room (m + 1) ne' := by
  obtain ⟨s, qs, ws, h1, h2, h3, h4, h5⟩ := h
  obtain rfl : ws = vs := by rw [hv] at h1; cases h1; rfl
  refine ⟨s.put n0, qs ++ [p], _, upd_same, ?_, fun q hq => ?_, by rw [List.length_append]; show qs.length + 1 ≤ m + 1; omega, fun _ z => ?_⟩
  · rw [List.map_append]
    exact iss_lf (ps := qs ++ [p]) (TupS.upd hv) (by rw [List.map_append]; exact h2.append (iss_cons (is_lf ht) iss_nil)) |> fun z => by rw [List.map_append] at z; exact z
  · rcases List.mem_append.mp hq with hq | hq
    · exact h3 q hq
    · rw [List.mem_singleton.mp hq]; exact ok
  · simp at z
def spDrawn (_ : PySem.W.Frag) : Sp := fun vs H Q _ => ∃ (b : Addr) (k far st : Int), vs = [.ref b, .int k] ∧ Bag H b far st ∧ 0 ≤ far ∧ 0 ≤ st ∧ 1 ≤ k ∧ k ≤ 3 ∧
  ∀ (ps : List Lf) (q : Addr) (H' : Hp), But b H H' → Is H' (lfs ps) (.ref q) → ps ∈ TL → Q (.ref q) H'
theorem asc_of {qs : List Lf} (h : qs.Pairwise fun a b => ltLf b a = false) : ∀ i j, i < j → j < (qs.map row3).length → ltI ((qs.map row3).getD j []) ((qs.map row3).getD i []) = false := by
  intro i j hij hj
  rw [List.length_map] at hj
  rw [List.pairwise_iff_getElem] at h
  rw [List.getD_eq_getElem?_getD, List.getD_eq_getElem?_getD, List.getElem?_map, List.getElem?_map, List.getElem?_eq_getElem hj, List.getElem?_eq_getElem (show i < qs.length by omega)]
  show ltI (row3 qs[j]) (row3 qs[i]) = false
  rw [ltI_lf]
  exact h i j (by omega) hj hij
def ti (t : List Int) : D := tI t
def spWm (_ : PySem.W.Frag) : Sp := fun vs H Q _ => ∃ (v : V) (t : List Int) (p : Nat) (m : Int), vs = [v, .int p, .int m] ∧ Is H (tI t) v ∧ p < t.length ∧ t.length ≤ 5 ∧ ∀ u H', Same H H' → Is H' (tI (wmF t p m)) u → Q u H'
theorem ti_cut {t : List Int} {p : Nat} (H' : Hp) (vs : List V) (h : Iss H' (t.map .i) vs) : Iss H' ((t.take p).map .i) (cutV vs none (some (p : Int))) := by
  rw [cut_take, List.map_take]
  exact h.take p
theorem ti_drop {t : List Int} {p : Nat} (hp : p ≤ t.length) (H' : Hp) (vs : List V) (h : Iss H' (t.map .i) vs) : Iss H' ((t.drop p).map .i) (cutV vs (some (p : Int)) none) := by
  rw [cut_dropI (by rw [h.length, List.length_map]; exact hp), List.map_drop]
  exact h.drop p
theorem pb_len : ∀ {g : Nat} {t : List Int} {p a : Nat}, (pbF g t p a).length ≤ (a + 1) ^ g
  | 0, t, p, a => by simp [pbF]
  | g + 1, t, p, a => by
    have go : ∀ n, n ≤ a + 1 → ((List.range n).flatMap fun h : Nat => (pbF g (wmF t p (h : Int)) (p + 1) (a - h)).map fun x => (x.1, chF (t.getD p 0 + (h : Int)) h * x.2)).length ≤ n * (a + 1) ^ g := by
      intro n hn
      induction n with
      | zero => simp
      | succ n ih =>
        rw [flat_succ, List.length_append, List.length_map]
        have h1 := ih (by omega)
        have h2 := pb_len (g := g) (t := wmF t p (n : Int)) (p := p + 1) (a := a - n)
        have h3 : (a - n + 1) ^ g ≤ (a + 1) ^ g := Nat.pow_le_pow_left (by omega) g
        rw [Nat.succ_mul]
        omega
    have := go (a + 1) (Nat.le_refl _)
    rw [Nat.pow_succ, Nat.mul_comm]
    exact this
theorem pb_small {g : Nat} {t : List Int} {p a : Nat} (hg : g ≤ 5) (ha : a ≤ 15) : (pbF g t p a).length ≤ 1048576 := by
  have h1 := pb_len (g := g) (t := t) (p := p) (a := a)
  have h2 : (a + 1) ^ g ≤ 16 ^ g := Nat.pow_le_pow_left (by omega) g
  have h3 : 16 ^ g ≤ 16 ^ 5 := Nat.pow_le_pow_right (by decide) hg
  omega
theorem lineB {n : Nat} (h : n ≤ 1048576) : n < sizeLine := by rw [sizeLine_eq]; omega
theorem is_pr {H : Hp} {x : List Int × Int} {t : Addr} {u : V} (h : H t = some (.tup [u, .int x.2])) (k : Is H (tI x.1) u) : Is H (prD x) (.ref t) := is_t h (iss_cons k (iss_cons is_i iss_nil))
theorem of_pr {H : Hp} {x : List Int × Int} {v : V} (h : Is H (prD x) v) : ∃ t u, v = .ref t ∧ H t = some (.tup [u, .int x.2]) ∧ Is H (tI x.1) u := by
  obtain ⟨t, vs, rfl, ht, hi⟩ := of_t h
  obtain ⟨u1, us, rfl, hu1, hi⟩ := of_cons hi
  obtain ⟨u2, us, rfl, hu2, hi⟩ := of_cons hi
  rw [of_nil hi, of_i hu2] at ht
  exact ⟨t, u1, rfl, ht, hu1⟩
theorem ti_tup {H H' : Hp} (s : TupS H H') {t : List Int} {v : V} (h : Is H (tI t) v) : Is H' (tI t) v := by
  obtain ⟨a, rfl, ha⟩ := of_tI h
  exact is_tI (s _ _ ha)
theorem pr_tup {H H' : Hp} (s : TupS H H') {x : List Int × Int} {v : V} (h : Is H (prD x) v) : Is H' (prD x) v := by
  obtain ⟨a, u, rfl, ha, hu⟩ := of_pr h
  exact is_pr (s _ _ ha) (ti_tup s hu)
theorem prs_tup {H H' : Hp} (s : TupS H H') : ∀ {xs : List (List Int × Int)} {vs : List V}, Iss H (xs.map prD) vs → Iss H' (xs.map prD) vs
  | [], _, h => by rw [of_nil h]; exact iss_nil
  | x :: xs, _, h => by
    obtain ⟨u, us, rfl, q, r⟩ := of_cons h
    exact iss_cons (pr_tup s q) (prs_tup s r)
theorem lf_inj {H : Hp} {p q : Lf} {v : V} (h : Is H (lf p) v) (k : Is H (lf q) v) : p = q := by
  obtain ⟨a, rfl, ha⟩ := of_lf h
  obtain ⟨b, e, hb⟩ := of_lf k
  cases e
  rw [ha] at hb
  obtain ⟨a1, a2, a3⟩ := p
  obtain ⟨b1, b2, b3⟩ := q
  simp at hb
  simp [hb]
theorem told_m {K : PySem.W.Frag} {H : Hp} {wt : List Lf} {m : Lf} {wvs : List V} {v : V} (h : Iss H (wt.map lf) wvs) (k : Is H (lf m) v) : Told1 K H 1 wvs v (fun j => decide (wt.getD j (0, 0, 0) = m)) := by
  have at_ : ∀ (j : Nat) z, wvs[j]? = some z → Is H (lf (wt.getD j (0, 0, 0))) z := fun j z hz => by
    obtain ⟨d, hd, h1⟩ := h.of_get hz
    rw [List.getElem?_map] at hd
    obtain ⟨d', hd', rfl⟩ := Option.map_eq_some_iff.mp hd
    rw [List.getD, hd']
    exact h1
  refine ⟨by decide, fun j z hz => ⟨?_, eqr_lf (at_ j z hz) k⟩, fun i j z hi hj => ?_⟩
  · obtain ⟨a, e, _⟩ := of_lf (at_ j z hz)
    exact ⟨a, e⟩
  · show decide (wt.getD i (0, 0, 0) = m) = decide (wt.getD j (0, 0, 0) = m)
    rw [lf_inj (at_ i z hi) (at_ j z hj)]
theorem told2_m {K : PySem.W.Frag} {H : Hp} {wt : List Lf} {m : Lf} {wvs : List V} {v : V} (h : Iss H (wt.map lf) wvs) (k : Is H (lf m) v) : Told2 K H 1 wvs v (fun j => decide (wt.getD j (0, 0, 0) = m)) := by
  obtain ⟨a, b, c⟩ := told_m (K := K) h k
  exact ⟨a, fun j z hz => ⟨(b j z hz).1, (b j z hz).2.told⟩, c⟩
theorem sset_nd (xs : List Lf) : (sset xs).Nodup := (sset_pw xs).imp fun {a b} h e => by subst e; exact ltLf_no h
theorem fold_take {α β : Type} (f : β → α → β) (b : β) (xs : List α) (j : Nat) (x : α) (h : xs[j]? = some x) : (xs.take (j + 1)).foldl f b = f ((xs.take j).foldl f b) x := by
  rw [List.take_add_one, h, List.foldl_append]
  rfl
theorem tf_cons (cnt : Lf → Nat) (m : Lf) (ms : List Lf) : TF cnt (m :: ms) = rsum (TF cnt ms) (m.1 - 1).toNat (spR (m.2.1 - m.1 - 1).toNat (cnt m)) := by funext t; rfl
theorem fold_step_P {p : Nat} {rs : List (List Nat)} {D : Tab} {j : Nat} {x : List Int × Int} {acc : Tab} (h : D[j]? = some x) : stP p rs (D.take (j + 1)) acc = inP x.1 x.2 p rs (stP p rs (D.take j) acc) := fold_take _ _ D j x h
theorem tup_dict {H : Hp} {d : Addr} {kvs : List (List Key × V)} {o : HO} (h : H d = some (.dT kvs)) : TupS H (upd H d o) := (LTS.dict h).2
def spCho (_ : PySem.W.Frag) : Sp := fun vs H Q _ => ∃ (n : Int) (k : Nat), vs = [.int n, .int k] ∧ (k : Int) ≤ n ∧ n ≤ 26 ∧ Q (.int (chF n k)) H
def KeyW (t : List Int) (p g a : Nat) : Prop := t.length ≤ 5 ∧ (∀ i : Nat, 0 ≤ t.getD i 0) ∧ (∀ i : Nat, p ≤ i → i ≤ p + g → t.getD i 0 + (a : Int) ≤ 26) ∧ (g = 0 ∨ a ≤ 3)
def spPB (n : Nat) (_ : PySem.W.Frag) : Sp := fun vs H Q _ => ∃ (v : V) (t : List Int) (p g a : Nat), vs = [v, .int p, .int ((p : Int) + (g : Int)), .int a] ∧ Is H (tI t) v ∧ g < n ∧ n ≤ 6 ∧ p + g < t.length ∧ KeyW t p g a ∧ ∀ l H', Same H H' → H l = none → Is H' (.l ((pbF g t p a).map prD)) (.ref l) → Q (.ref l) H'
def spHMO (_ : PySem.W.Frag) : Sp := fun vs H Q _ => ∃ (d : Nat) (v : V) (mk : List Lf), vs = [.int d, v] ∧ 1 ≤ d ∧ d ≤ 4 ∧ Is H (lfs mk) v ∧ MkW d mk ∧ ∀ H', Same H H' → Q (.int (hmF d mk)) H'
def spWords (_ : PySem.W.Frag) : Sp := fun vs H Q _ => ∃ (v : V) (ps : List Lf) (pl : Int), vs = [v, .int pl] ∧ Is H (lfs ps) v ∧ Tpl ps ∧ 1 ≤ pl ∧ pl ≤ 20 ∧ ∀ H', Same H H' → Q (.int (wordsF ps pl)) H'
def spSho (_ : PySem.W.Frag) : Sp := fun vs H Q _ => ∃ (v : V) (ps : List Lf) (pl : Int) (n : Nat), vs = [v, .int pl, .int n] ∧ Is H (lfs ps) v ∧ ps.length ≤ 20 ∧ n ≤ 100 ∧ ∀ l H', Same H H' → H' l = some (.lst ((shF ps pl n).map V.int)) → Q (.ref l) H'
def rwD (r : List Int × Int) : D := .t [.l (r.1.map .i), .i r.2]
def RowsB (L m : Nat) (rows : List (List Int × Int)) : Prop := rows.length ≤ 4 ^ m ∧ ∀ r ∈ rows, r.1.length = L ∧ ∀ i : Nat, 0 ≤ r.1.getD i 0 ∧ r.1.getD i 0 ≤ 100 + (m : Int)
def spPut (_ : PySem.W.Frag) : Sp := fun vs H Q _ => ∃ (v u : V) (rows : List (List Int × Int)) (p : Lf) (L m : Nat), vs = [v, u] ∧ Is H (.l (rows.map rwD)) v ∧ Is H (lf p) u ∧ RowsB L m rows ∧ m ≤ 3 ∧ L ≤ 4 ∧ 0 ≤ p.1 ∧ p.1 < p.2.1 ∧ p.2.1 ≤ (L : Int) ∧ ∀ l H', Same H H' → Is H' (.l ((piF rows p).map rwD)) (.ref l) → Q (.ref l) H'
def spDue (_ : PySem.W.Frag) : Sp := fun vs H Q _ => ∃ (v : V) (ps : List Lf) (pl : Int), vs = [v, .int pl] ∧ Is H (lfs ps) v ∧ Tpl ps ∧ 1 ≤ pl ∧ pl ≤ 20 ∧ ∀ H', Same H H' → Q (.int (dueF ps pl)) H'
def upM (p : Lf) : Lf := (p.1 + 1, p.2.1 + 1, p.2.2)
def mkA (ps : List Lf) (pl : Int) (n : Nat) : List Lf := ps.map upM ++ (List.range n).flatMap fun i : Nat => List.replicate (pl + (1 + (i : Int)) - 1 - loadF ps (1 + (i : Int))).toNat ((1 + (i : Int), 1 + (i : Int) + 1, 1) : Lf)
theorem mkA_all (ps : List Lf) (pl : Int) : mkA ps pl (lenF ps).toNat = marksF ps pl := rfl
theorem mkA_succ (ps : List Lf) (pl : Int) (n : Nat) : mkA ps pl (n + 1) = mkA ps pl n ++ List.replicate (pl + (1 + (n : Int)) - 1 - loadF ps (1 + (n : Int))).toNat ((1 + (n : Int), 1 + (n : Int) + 1, 1) : Lf) := by
  unfold mkA
  rw [flat_succ, List.append_assoc]
theorem mkA_len {ps : List Lf} {pl : Int} (h : Tpl ps) (h2 : pl ≤ 20) : ∀ {n : Nat}, n ≤ 4 → (mkA ps pl n).length ≤ 3 + 30 * n
  | 0, _ => by
    have := h.len
    unfold mkA
    simp
    omega
  | n + 1, hn => by
    have ih := mkA_len h h2 (n := n) (by omega)
    have l := h.load n (by omega)
    rw [mkA_succ, List.length_append, List.length_replicate]
    omega
theorem ownG_tri {K : PySem.W.Frag} : OwnG 3 (gTup K 3 (gCons (gName 0) (gCons (gName 1) (gCons (gName 2) gNil)))) := by
  intro v σ H Q ⟨a, xs, e, hq, hl, x, r, ex, y, r2, er, z, r3, er3, en, q⟩
  refine ⟨a, xs, e, hq, hl, x, r, ex, y, r2, er, z, r3, er3, en, q, ?_, fun i hi => ?_⟩
  · rw [List.length_set, List.length_set, List.length_set]
  · rw [List.getElem?_set_ne (by omega), List.getElem?_set_ne (by omega), List.getElem?_set_ne (by omega)]
theorem mono_tri {K : PySem.W.Frag} : ∀ (σ : L2.St) (H : Hp) (R R' : L2.St → Hp → Prop) (x : V), (∀ σ' H', R σ' H' → R' σ' H') → gTup K 3 (gCons (gName 0) (gCons (gName 1) (gCons (gName 2) gNil))) x σ H R → gTup K 3 (gCons (gName 0) (gCons (gName 1) (gCons (gName 2) gNil))) x σ H R' :=
  fun σ H R R' v k ⟨a, xs, e, hq, hl, x, r, ex, y, r2, er, z, r3, er3, en, q⟩ => ⟨a, xs, e, hq, hl, x, r, ex, y, r2, er, z, r3, er3, en, k _ _ q⟩
theorem pi_len {rows : List (List Int × Int)} {p : Lf} {m : Nat} (h : rows.length ≤ 4 ^ m) (h2 : p.2.1 - p.1 ≤ 4) : ∀ n, n ≤ (p.2.1 - p.1).toNat → ((List.range n).flatMap fun g : Nat => rows.map fun r => (wmF r.1 (p.1.toNat + g) 1, r.2 * (wmF r.1 (p.1.toNat + g) 1).getD (p.1.toNat + g) 0)).length = n * rows.length
  | 0, _ => by simp
  | n + 1, hn => by
    rw [flat_succ, List.length_append, List.length_map, pi_len h h2 n (by omega), Nat.succ_mul]
theorem pi_ok {L m : Nat} {rows : List (List Int × Int)} {p : Lf} (h : RowsB L m rows) (h0 : 0 ≤ p.1) (h1 : p.2.1 ≤ (L : Int)) (h2 : p.2.1 - p.1 ≤ 4) : RowsB L (m + 1) (piF rows p) := by
  refine ⟨?_, fun r hr => ?_⟩
  · unfold piF
    rw [pi_len (m := m) h.1 h2 _ (Nat.le_refl _), Nat.pow_succ, Nat.mul_comm]
    exact Nat.mul_le_mul h.1 (by omega)
  · unfold piF at hr
    obtain ⟨g, hg, hr⟩ := List.mem_flatMap.mp hr
    obtain ⟨r', hr', rfl⟩ := List.mem_map.mp hr
    have hg := List.mem_range.mp hg
    obtain ⟨e1, e2⟩ := h.2 r' hr'
    refine ⟨by rw [wm_len]; exact e1, fun i => ?_⟩
    rw [wm_at (by omega)]
    have := e2 i
    split <;> omega
section
variable {P : Program} {w : World} {K : PySem.W.Frag} {mg : Str → Option Value} {base : Heap} (T : Fns K mg)
theorem ok__law_cell_at : FnOk P w K mg base CX0 1 T.f__law_cell_at T.d__law_cell_at ["_law_script", "_law_k"] (spCell K) := by
  refine T.F__law_cell_at.ok sc__law_cell_at (fun vs H Q E h => ?_) (fun cdv A outer s H vs Q E hr h => ?_)
  · obtain ⟨_, _, _, rfl, _⟩ := h
    rfl
  · obtain ⟨a, ns, k, rfl, hS, h0, kk⟩ := h
    refine ⟨_, (pss_cons (ps_if (pt_cmpR op_lt (pv 1) (pe_callB call_len_seq (by rfl) T.n_len boot_len (pa_cons (pv 0) pa_nil)) (nomark _)) (pss_one (ps_ret (pe_ix ix_list (pv 0) (pv 1) (fun _ _ => rfl)))) pss_nil)
      (pss_one (ps_ret pe_int))), ?_⟩
    refine ⟨_, rfl, _, rfl, a, _, rfl, .inl hS, _, _, rfl, rfl, _, rfl, ?_⟩
    refine iteD (fun h => ?_) (fun _ => kk 0)
    rw [List.length_map] at h
    have hk : k.toNat < ns.length := by omega
    have e : ((k.toNat : Nat) : Int) = k := by omega
    exact ⟨_, rfl, _, rfl, a, _, k, _, rfl, rfl, hS, by rw [← e]; exact at_int hk, kk _⟩
theorem ok__law_bag : FnOk P w K mg base CX0 1 T.f__law_bag T.d__law_bag ["_law_cell", "_law_place"] (spBag K) := by
  refine T.F__law_bag.ok sc__law_bag (fun vs H Q E h => ?_) (fun cdv A outer s H vs Q E hr h => ?_)
  · obtain ⟨_, _, rfl, _⟩ := h
    rfl
  · obtain ⟨c, pl, rfl, h0, h1, kk⟩ := h
    refine ⟨_, (pss_cons (ps_set (i := 2) sc__law_bag.nd rfl (by first | exact Or.inl rfl | exact Or.inr rfl) (pe_callB call_abs (by rfl) T.n_abs boot_abs (pa_cons (pv 0) pa_nil)))
      (pss_cons (ps_if (pt_cmpR op_lt (pv 2) (pe_op op_pow pe_int pe_int) (nomark _)) (pss_one (ps_set (i := 2) sc__law_bag.nd rfl (by first | exact Or.inl rfl | exact Or.inr rfl) pe_int)) pss_nil)
      (pss_one (ps_ret (pe_lst (pa_cons (pv 2) (pa_cons (pe_op op_mod (pe_op op_add (pe_op op_add (pe_op op_mul (pe_op op_mod (pv 0) pe_int) pe_int) (pe_op op_mul pe_int (pv 1))) pe_int) pe_int) pa_nil))))))), ?_⟩
    refine ⟨_, rfl, c, rfl, ?_⟩
    refine ⟨_, rfl, 10, 18, rfl, rfl, ⟨by decide, by decide, by decide⟩, _, _, rfl, rfl, _, rfl, ?_⟩
    refine iteD (fun _ => ?_) (fun _ => ?_)
    · refine ⟨_, rfl, _, rfl, _, _, rfl, rfl, (show (0 : Int) < 2147483647 by decide), _, _, rfl, rfl, .inr ⟨by decide, by decide⟩, _, rfl, _, _, rfl, rfl, .inl ⟨by decide, by decide⟩, _, _, rfl, rfl, _, _, rfl, rfl, _, _, rfl, rfl, (show (0 : Int) < 2147483647 by decide), ?_⟩
      exact ⟨(by show 2 ≤ sizeLine; decide), fun b nb => kk b _ _ _ (Same.new nb) nb upd_same (by omega) (Int.emod_nonneg _ (by decide))⟩
    · refine ⟨_, rfl, _, rfl, _, _, rfl, rfl, (show (0 : Int) < 2147483647 by decide), _, _, rfl, rfl, .inr ⟨by decide, by decide⟩, _, rfl, _, _, rfl, rfl, .inl ⟨by decide, by decide⟩, _, _, rfl, rfl, _, _, rfl, rfl, _, _, rfl, rfl, (show (0 : Int) < 2147483647 by decide), ?_⟩
      exact ⟨(by show 2 ≤ sizeLine; decide), fun b nb => kk b _ _ _ (Same.new nb) nb upd_same (by split <;> omega) (Int.emod_nonneg _ (by decide))⟩
theorem ok__law_mixed : FnOk P w K mg base CX0 1 T.f__law_mixed T.d__law_mixed ["_law_bag_here"] (spMixed K) := by
  refine T.F__law_mixed.ok sc__law_mixed (fun vs H Q E h => ?_) (fun cdv A outer s H vs Q E hr h => ?_)
  · obtain ⟨_, _, _, rfl, _⟩ := h
    rfl
  · obtain ⟨b, far, st, rfl, hb, kk⟩ := h
    refine ⟨_, (pss_cons (ps_asg (pe_op op_mod (pe_op op_add (pe_op op_mul (pe_ix ix_list (pv 0) pe_int (fun _ _ => rfl)) pe_int) pe_int) pe_int) (pg_sub (pv 0) pe_int set_list))
      (pss_one (ps_ret (pe_op op_fdiv (pe_op op_mod (pe_op op_mul (pe_ix ix_list (pv 0) pe_int (fun _ _ => rfl)) pe_int) pe_int) pe_int)))), ?_⟩
    refine ⟨_, rfl, b, _, _, _, rfl, rfl, SqL.of hb, by rfl, _, _, rfl, rfl, .inr ⟨by decide, by decide⟩, _, _, rfl, rfl, _, _, rfl, rfl, (show (0 : Int) < 2147483647 by decide), _, rfl, b, _, _, 1, rfl, rfl, hb, by rfl, ?_⟩
    refine ⟨_, rfl, b, _, _, _, rfl, rfl, SqL.of upd_same, by rfl, _, _, rfl, rfl, .inr ⟨by decide, by decide⟩, _, _, rfl, rfl, (show (0 : Int) < 2147483629 by decide), _, _, rfl, rfl, ⟨by decide, by decide⟩, ?_⟩
    refine kk _ _ ?_ (Int.emod_nonneg _ (by decide))
    omega
theorem ok__law_digit : FnOk P w K mg base CX0 2 T.f__law_digit T.d__law_digit ["_law_bag_here", "_law_many"] (spDigit K) := by
  refine T.F__law_digit.ok sc__law_digit (fun vs H Q E h => ?_) (fun cdv A outer s H vs Q E hr h => ?_)
  · obtain ⟨_, _, _, _, rfl, _⟩ := h
    rfl
  · obtain ⟨b, many, far, st, rfl, hb, hf, hst, hm, hm2, kk⟩ := h
    refine ⟨_, (pss_cons (ps_if (pt_cmpR op_gt (pe_ix ix_list (pv 0) pe_int (fun _ _ => rfl)) pe_int (nomark _)) (pss_cons (ps_set (i := 2) sc__law_digit.nd rfl (by first | exact Or.inl rfl | exact Or.inr rfl) (pe_op op_mod (pe_ix ix_list (pv 0) pe_int (fun _ _ => rfl)) (pv 1)))
      (pss_cons (ps_asg (pe_op op_fdivB (pe_ix ix_list (pv 0) pe_int (fun _ _ => rfl)) (pv 1)) (pg_sub (pv 0) pe_int set_list))
      (pss_one (ps_ret (pv 2))))) pss_nil)
      (pss_cons (ps_set (i := 2) sc__law_digit.nd rfl (by first | exact Or.inl rfl | exact Or.inr rfl) (pe_call (ok__law_mixed T) (hr.mono (by decide)) (by rfl) T.m__law_mixed T.F__law_mixed.kp T.B__law_mixed .nil pass0 (pa_cons (pv 0) pa_nil)))
      (pss_cons (ps_if (pt_cmpR op_gt (pv 1) pe_int (nomark _)) (pss_one (ps_for PassesOwn.never rfl (pi_range1 (by rfl) T.n_range (pa_cons pe_int pa_nil)) (pg_name (i := 3) sc__law_digit.nd rfl (by first | exact Or.inl rfl | exact Or.inr rfl)) (pss_one (ps_set (i := 2) sc__law_digit.nd rfl (by first | exact Or.inl rfl | exact Or.inr rfl) (pe_op op_add (pe_op op_mul (pv 2) pe_int) (pe_call (ok__law_mixed T) (hr.mono (by decide)) (by rfl) T.m__law_mixed T.F__law_mixed.kp T.B__law_mixed .nil pass0 (pa_cons (pv 0) pa_nil))))))) pss_nil)
      (pss_one (ps_ret (pe_op op_mod (pv 2) (pv 1))))))), ?_⟩
    refine ⟨_, rfl, b, _, _, _, rfl, rfl, SqL.of hb, by rfl, _, _, rfl, rfl, _, rfl, ?_⟩
    refine iteD (fun h => ?_) (fun h => ?_)
    · refine ⟨_, rfl, b, _, _, _, rfl, rfl, SqL.of hb, by rfl, _, rfl, _, _, rfl, rfl, hm, ?_⟩
      refine ⟨_, rfl, b, _, _, _, rfl, rfl, SqL.of hb, by rfl, _, rfl, _, _, rfl, rfl, bits60 hm hm2, _, rfl, b, _, _, 0, rfl, rfl, hb, by rfl, ?_⟩
      exact ⟨_, rfl, kk _ _ _ (Int.emod_nonneg _ (by omega)) (Int.emod_lt_of_pos _ hm) (Int.fdiv_nonneg hf (by omega)) hst⟩
    · refine ⟨_, rfl, b, far, st, rfl, hb, fun z st' hz hst' => ?_⟩
      refine ⟨_, rfl, _, _, rfl, rfl, _, rfl, ?_⟩
      refine iteD (fun h => ?_) (fun h => ?_)
      · refine ⟨7, rfl, by decide, by decide, for_range (n := 7) (fun i σ H2 => ∃ (z : Int) (v : Option V) (st' : Int), σ = [some (.ref b), some (.int many), some (.int z), v] ∧ 0 ≤ z ∧ 0 ≤ st' ∧ H2 = upd H b (.lst [.int far, .int st'])) ⟨z, _, st', rfl, hz, hst', rfl⟩ ?_ ?_⟩
        · rintro i σ H2 hi ⟨z, v, st', rfl, hz, hst', rfl⟩
          refine ⟨_, rfl, _, _, rfl, rfl, .inr ⟨by decide, by decide⟩, _, rfl, b, far, st', rfl, upd_same, fun z2 st2 hz2 hst2 => ⟨_, _, rfl, rfl, ?_⟩⟩
          exact ⟨_, _, st2, rfl, by omega, hst2, upd_upd⟩
        · rintro σ H2 ⟨z, v, st', rfl, hz, hst', rfl⟩
          exact ⟨_, rfl, _, rfl, _, _, rfl, rfl, hm, kk _ _ _ (Int.emod_nonneg _ (by omega)) (Int.emod_lt_of_pos _ hm) hf hst'⟩
      · exact ⟨_, rfl, _, rfl, _, _, rfl, rfl, hm, kk _ _ _ (Int.emod_nonneg _ (by omega)) (Int.emod_lt_of_pos _ hm) hf hst'⟩
theorem ok_choose : FnOk P w K mg base CX0 1 T.f_choose T.d_choose ["number", "chosen"] (spCho K) := by
  refine T.F_choose.ok sc_choose (fun vs H Q E h => ?_) (fun cdv A outer s H vs Q E hr h => ?_)
  · obtain ⟨_, _, rfl, _⟩ := h
    rfl
  · obtain ⟨n, k, rfl, h1, h2, kk⟩ := h
    refine ⟨_, (pss_cons (ps_if (pw_or (pt_cmpR op_lt (pv 1) pe_int (nomark _)) (pw_or1 (pt_cmpR op_gt (pv 1) (pv 0) (nomark _)))).pt (pss_one (ps_ret pe_int)) pss_nil)
      (pss_cons (ps_set (i := 2) sc_choose.nd rfl (by first | exact Or.inl rfl | exact Or.inr rfl) pe_int)
      (pss_cons (ps_for PassesOwn.never rfl (pi_range1 (by rfl) T.n_range (pa_cons (pv 1) pa_nil)) (pg_name (i := 3) sc_choose.nd rfl (by first | exact Or.inl rfl | exact Or.inr rfl)) (pss_one (ps_set (i := 2) sc_choose.nd rfl (by first | exact Or.inl rfl | exact Or.inr rfl) (pe_op op_fdiv (pe_op op_mul (pv 2) (pe_op op_sub (pv 0) (pv 3))) (pe_op op_add (pv 3) pe_int)))))
      (pss_one (ps_ret (pv 2)))))), ?_⟩
    refine ⟨_, rfl, _, _, rfl, rfl, _, rfl, iteD (fun h => absurd h (by omega)) (fun _ => ?_)⟩
    refine ⟨_, rfl, _, rfl, _, _, rfl, rfl, _, rfl, iteD (fun h => absurd h (by omega)) (fun _ => ?_)⟩
    refine ⟨_, rfl, (k : Int), rfl, by omega, by omega, for_range (lo := 0) (n := (k : Int).toNat) (fun i σ H2 => (∃ v3, σ = [some (.int n), some (.int k), some (.int (chF n i)), v3]) ∧ H2 = H) ⟨⟨none, rfl⟩, rfl⟩ ?_ ?_⟩
    · rintro i σ H2 hi ⟨⟨v3, rfl⟩, rfl⟩
      refine ⟨_, rfl, _, rfl, _, rfl, _, _, rfl, rfl, _, _, rfl, rfl, .inr ⟨by omega, by omega⟩, _, rfl, _, _, rfl, rfl, _, _, rfl, rfl, ⟨by omega, by omega⟩, ⟨some (.int (0 + (i : Int))), ?_⟩, rfl⟩
      rw [show chF n (i + 1) = chF n i * (n - (0 + (i : Int))) / ((0 + (i : Int)) + 1) by rw [Int.zero_add]; rfl]
      rfl
    · rintro σ H2 ⟨⟨v3, rfl⟩, rfl⟩
      rw [Int.toNat_natCast]
      exact ⟨_, rfl, kk⟩
theorem ok_with_more : FnOk P w K mg base CX0 1 T.f_with_more T.d_with_more ["numbers", "place", "more"] (spWm K) := by
  refine T.F_with_more.ok sc_with_more (fun vs H Q E h => ?_) (fun cdv A outer s H vs Q E hr h => ?_)
  · obtain ⟨_, _, _, _, rfl, _⟩ := h
    rfl
  · obtain ⟨v, t, p, m, rfl, hv, hp, hl, kk⟩ := h
    refine ⟨_, (pss_one (ps_ret (pe_op op_catA (pe_op op_catA (pe_slice sl_tupN (pv 0) po_none (po_some (pv 1))) (pe_tupN (pa_cons (pe_op op_add (pe_ix ix_tupN (pv 0) (pv 1) (fun _ _ => rfl)) (pv 2)) pa_nil))) (pe_slice sl_tupN (pv 0) (po_some (pe_op op_add (pv 1) pe_int)) po_none)))), ?_⟩
    have hlen : ∀ vs : List V, vs.length = (t.map D.i).length → vs.length = t.length := fun vs e => by rw [e, List.length_map]
    refine ⟨_, rfl, _, rfl, (p : Int), rfl, t.map .i, (t.take p).map .i, hv, ti_cut, fun vs e h => ?_, fun u1 H1 s1 hu1 => ?_⟩
    · have e := hlen vs e
      rw [HT.sIx_nat] at h
      omega
    refine ⟨_, rfl, _, rfl, t.map .i, (p : Int), .i (t.getD p 0), hv.mono s1, rfl, ?_, fun u hu => ?_⟩
    · refine ix_D (j := p) rfl ?_
      rw [List.getElem?_map, List.getElem?_eq_getElem hp]
      simp [List.getD, hp]
    rw [of_i hu]
    refine ⟨_, rfl, _, _, rfl, rfl, (by show 1 ≤ sizeLine; decide), fun q2 H2 n2 s2 h2 => ?_⟩
    have hu2 : Is H2 (.t [.i (t.getD p 0 + m)]) (.ref q2) := is_t h2 (iss_cons is_i iss_nil)
    refine ⟨_, _, hu1.mono s2, hu2, Nat.le_of_lt (small1000 (by rw [List.length_map, List.length_take]; show _ + 1 ≤ 1000; omega)), fun u3 H3 s3 hu3 => ?_⟩
    refine ⟨_, rfl, _, rfl, _, _, rfl, rfl, (p : Int) + 1, rfl, t.map .i, (t.drop (p + 1)).map .i, ((hv.mono s1).mono s2).mono s3, ?_, fun vs e h => ?_, fun u4 H4 s4 hu4 => ?_⟩
    · rw [show ((p : Int) + 1) = ((p + 1 : Nat) : Int) by omega]
      exact ti_drop (by omega)
    · have e := hlen vs e
      rw [show ((p : Int) + 1) = ((p + 1 : Nat) : Int) by omega, HT.sIx_nat] at h
      omega
    refine ⟨_, _, hu3.mono s4, hu4, Nat.le_of_lt (small1000 (by rw [List.length_append, List.length_map, List.length_map, List.length_take, List.length_drop]; show _ + 1 + _ ≤ 1000; omega)), fun u5 H5 s5 hu5 => ?_⟩
    refine kk u5 H5 ((((s1.trans s2).trans s3).trans s4).trans s5) ?_
    have e : (t.take p).map D.i ++ [D.i (t.getD p 0 + m)] ++ (t.drop (p + 1)).map D.i = (wmF t p m).map D.i := by
      unfold wmF
      rw [← set_cut hp, List.map_append, List.map_append]
      rfl
    rw [e] at hu5
    exact hu5
theorem ok_put_between : ∀ n : Nat, FnOk P w K mg base CX0 (n + 2) T.f_put_between T.d_put_between ["numbers", "first", "last", "alike"] (spPB n K)
  | 0 => ⟨fun vs H Q E h => (by obtain ⟨_, _, _, _, _, _, _, h, _⟩ := h; exact absurd h (Nat.not_lt_zero _)), fun A outer s H args us vs Q E _ _ _ _ h => (by obtain ⟨_, _, _, _, _, _, _, h, _⟩ := h; exact absurd h (Nat.not_lt_zero _))⟩
  | n + 1 => by
    have ih := ok_put_between n
    refine T.F_put_between.ok sc_put_between (fun vs H Q E h => ?_) (fun cdv A outer s H vs Q E hr h => ?_)
    · obtain ⟨_, _, _, _, _, rfl, _⟩ := h
      rfl
    · obtain ⟨v, t, p, g, a, rfl, hv, hg, hn, hp, ⟨kl, kn, ks, k3⟩, kk⟩ := h
      refine ⟨_, (pss_cons (ps_if (pt_cmpR op_eq (pv 1) (pv 2) (nomark _)) (pss_one (ps_ret (pe_lstN (pa_cons (pe_tupN (pa_cons (pe_call (ok_with_more T) (hr.mono (by omega)) (by rfl) T.m_with_more T.F_with_more.kp T.B_with_more .nil pass0 (pa_cons (pv 0) (pa_cons (pv 1) (pa_cons (pv 3) pa_nil)))) (pa_cons (pe_call (ok_choose T) (hr.mono (by omega)) (by rfl) T.m_choose T.F_choose.kp T.B_choose .nil pass0 (pa_cons (pe_op op_add (pe_ix ix_tupN (pv 0) (pv 1) (fun _ _ => rfl)) (pv 3)) (pa_cons (pv 3) pa_nil))) pa_nil))) pa_nil)))) pss_nil)
      (pss_cons (ps_set (i := 4) sc_put_between.nd rfl (by first | exact Or.inl rfl | exact Or.inr rfl) (pe_lstN pa_nil))
      (pss_cons (ps_for PassesOwn.never rfl (pi_range1 (by rfl) T.n_range (pa_cons (pe_op op_add (pv 3) pe_int) pa_nil)) (pg_name (i := 5) sc_put_between.nd rfl (by first | exact Or.inl rfl | exact Or.inr rfl)) (pss_cons (ps_set (i := 6) sc_put_between.nd rfl (by first | exact Or.inl rfl | exact Or.inr rfl) (pe_call (ok_choose T) (hr.mono (by omega)) (by rfl) T.m_choose T.F_choose.kp T.B_choose .nil pass0 (pa_cons (pe_op op_add (pe_ix ix_tupN (pv 0) (pv 1) (fun _ _ => rfl)) (pv 5)) (pa_cons (pv 5) pa_nil))))
      (pss_one (ps_for PassesOwn.never rfl (pi_list (pe_call ih hr (by rfl) T.m_put_between T.F_put_between.kp T.B_put_between .nil pass0 (pa_cons (pe_call (ok_with_more T) (hr.mono (by omega)) (by rfl) T.m_with_more T.F_with_more.kp T.B_with_more .nil pass0 (pa_cons (pv 0) (pa_cons (pv 1) (pa_cons (pv 5) pa_nil)))) (pa_cons (pe_op op_add (pv 1) pe_int) (pa_cons (pv 2) (pa_cons (pe_op op_sub (pv 3) (pv 5)) pa_nil)))))) (pg_tup rfl (pgs_cons (pg_name (i := 7) sc_put_between.nd rfl (by first | exact Or.inl rfl | exact Or.inr rfl)) (pgs_cons (pg_name (i := 8) sc_put_between.nd rfl (by first | exact Or.inl rfl | exact Or.inr rfl)) pgs_nil))) (pss_one (ps_expr (pe_bm PySem.F.plainAttrs_list PySem.F.slot_list_append PySem.F.type_list_append mt_append (pv 4) (pa_cons (pe_tupN (pa_cons (pv 7) (pa_cons (pe_op op_mul (pv 6) (pv 8)) pa_nil))) pa_nil))))))))
      (pss_one (ps_ret (pv 4)))))), ?_⟩
      have kp := ks p (Nat.le_refl _) (Nat.le_add_right _ _)
      have kp0 := kn p
      have at_p : ∀ {H' : Hp}, Same H H' → ∀ {v' : V}, Is H' (tI t) v' → atI (t.map D.i) (p : Int) = some (.i (t.getD p 0)) := fun _ _ _ => by
        refine ix_D (j := p) rfl ?_
        rw [List.getElem?_map, List.getElem?_eq_getElem (by omega)]
        simp [List.getD, show p < t.length by omega]
      refine ⟨_, rfl, _, rfl, rfl, _, rfl, iteE (fun e => ?_) (fun e => ?_)⟩
      · have hg0 : g = 0 := by omega
        subst hg0
        refine ⟨_, rfl, _, rfl, _, rfl, v, t, p, a, rfl, hv, by omega, kl, fun u1 H1 s1 hu1 => ?_⟩
        refine ⟨_, rfl, _, rfl, t.map .i, (p : Int), _, hv.mono s1, rfl, at_p s1 (hv.mono s1), fun u hu => ?_⟩
        rw [of_i hu]
        refine ⟨_, rfl, _, _, rfl, rfl, _, rfl, t.getD p 0 + a, a, rfl, by omega, by omega, ?_⟩
        refine ⟨(by show 2 ≤ sizeLine; decide), fun q2 H2 n2 s2 h2 => ⟨(by show 1 ≤ sizeLine; decide), fun q3 H3 n3 s3 h3 => ?_⟩⟩
        have s02 := s1.trans s2
        refine kk q3 H3 (s02.trans s3) (s02.free n3) (is_l h3 (iss_cons ((is_pr (x := (wmF t p (a : Int), chF (t.getD p 0 + (a : Int)) a)) h2 (hu1.mono s2)).mono s3) iss_nil))
      · obtain ⟨g, rfl⟩ : ∃ g', g = g' + 1 := ⟨g - 1, by omega⟩
        refine ⟨Nat.zero_le _, fun fo H1 nf s1 hfo => ?_⟩
        have a3 : a ≤ 3 := by rcases k3 with z | z; omega; exact z
        have big := pb_small (g := g + 1) (t := t) (p := p) (a := a) (by omega) (by omega)
        have a15 : (a : Int) ≤ 15 := by omega
        refine ⟨_, rfl, _, _, rfl, rfl, _, rfl, by omega, by omega, ?_⟩
        rw [show ((a : Int) + 1).toNat = a + 1 by omega]
        refine for_range (lo := 0) (n := a + 1) (fun h σ H2 => (∃ v5 v6 v7 v8, σ = [some v, some (.int p), some (.int ((p : Int) + ((g + 1 : Nat) : Int))), some (.int a), some (.ref fo), v5, v6, v7, v8]) ∧ Same H H2 ∧ ∃ vs, H2 fo = some (.lst vs) ∧ Iss H2 (((List.range h).flatMap fun h : Nat => (pbF g (wmF t p (h : Int)) (p + 1) (a - h)).map fun x => (x.1, chF (t.getD p 0 + (h : Int)) h * x.2)).map prD) vs) ⟨⟨none, none, none, none, rfl⟩, s1, [], hfo, iss_nil⟩ ?_ ?_
        · rintro h σ H2 hh ⟨⟨v5, v6, v7, v8, rfl⟩, s2, vs2, hf2, hi2⟩
          rw [Int.zero_add]
          have hb : ∀ j, j ≤ (pbF g (wmF t p (h : Int)) (p + 1) (a - h)).length → ((List.range h).flatMap fun h : Nat => (pbF g (wmF t p (h : Int)) (p + 1) (a - h)).map fun x => (x.1, chF (t.getD p 0 + (h : Int)) h * x.2)).length + j ≤ 1048576 := fun j hj => by
            have := pre_len (fun h : Nat => (pbF g (wmF t p (h : Int)) (p + 1) (a - h)).map fun x => (x.1, chF (t.getD p 0 + (h : Int)) h * x.2)) hh
            rw [List.length_map] at this
            unfold pbF at big
            omega
          rw [flat_succ]
          generalize ((List.range h).flatMap fun h : Nat => (pbF g (wmF t p (h : Int)) (p + 1) (a - h)).map fun x => (x.1, chF (t.getD p 0 + (h : Int)) h * x.2)) = pr at hi2 hb ⊢
          obtain ⟨c1, c2, _⟩ := ch_le (n := t.getD p 0 + (h : Int)) (k := h) (by omega) (by omega)
          refine ⟨_, rfl, _, rfl, t.map .i, (p : Int), _, hv.mono s2, rfl, at_p s2 (hv.mono s2), fun u hu => ?_⟩
          rw [of_i hu]
          refine ⟨_, rfl, _, _, rfl, rfl, _, rfl, t.getD p 0 + (h : Int), h, rfl, by omega, by omega, ?_⟩
          refine ⟨_, rfl, _, rfl, _, rfl, v, t, p, (h : Int), rfl, hv.mono s2, by omega, kl, fun u3 H3 s3 hu3 => ?_⟩
          refine ⟨_, rfl, _, _, rfl, rfl, _, rfl, _, rfl, _, rfl, _, _, rfl, rfl, u3, wmF t p (h : Int), p + 1, g, a - h, ?_, hu3, by omega, by omega, by rw [wm_len]; omega, ⟨by rw [wm_len]; exact kl, fun i => ?_, fun i hi1 hi2 => ?_, .inr (by omega)⟩, fun rl H4 s4 nrl hrl => ?_⟩
          · have e1 : ((p : Int) + 1) = ((p + 1 : Nat) : Int) := by omega
            have e2 : (p : Int) + ((g + 1 : Nat) : Int) = ((p + 1 : Nat) : Int) + (g : Int) := by omega
            have e3 : (a : Int) - (h : Int) = ((a - h : Nat) : Int) := by omega
            show [u3, V.int ((p : Int) + 1), V.int ((p : Int) + ((g + 1 : Nat) : Int)), V.int ((a : Int) - (h : Int))] = _
            rw [e1, e2, e3]
          · rw [wm_at (by omega)]
            have := kn i
            split <;> omega
          · rw [wm_at (by omega), if_neg (by omega)]
            have := ks i (by omega) (by omega)
            omega
          obtain ⟨_, rvs, e, hrl4, hri⟩ := of_l hrl
          cases e
          generalize pbF g (wmF t p (h : Int)) (p + 1) (a - h) = O at hri hb ⊢
          have rlen : rvs.length = O.length := by rw [hri.length, List.length_map]
          have s24 := s3.trans s4
          have hf4 := s24 _ _ hf2
          have rlfo : rl ≠ fo := by rintro rfl; rw [s3 _ _ hf2] at nrl; cases nrl
          refine ⟨rl, rfl, ⟨_, SqL.of hrl4⟩, for_list (xs := rvs) (fun j σ H5 => (∃ v7 v8, σ = [some v, some (.int p), some (.int ((p : Int) + ((g + 1 : Nat) : Int))), some (.int a), some (.ref fo), some (.int h), some (.int (chF (t.getD p 0 + (h : Int)) h)), v7, v8]) ∧ Same H H5 ∧ H5 rl = some (.lst rvs) ∧ TupS H4 H5 ∧ ∃ vs, H5 fo = some (.lst vs) ∧ Iss H5 ((pr ++ (O.take j).map fun x => (x.1, chF (t.getD p 0 + (h : Int)) h * x.2)).map prD) vs) ⟨⟨_, _, rfl⟩, s2.trans s24, hrl4, TupS.of_same (Same.refl H4), vs2, hf4, by simpa using hi2.mono s24⟩ (fun j σ H5 _ h => SqL.of h.2.2.1) ?_ ?_⟩
          · rintro j y σ H5 hj ⟨⟨v7, v8, rfl⟩, s5, hrl5, t5, vs5, hf5, hi5⟩
            obtain ⟨dd, hdd, hy⟩ := hri.of_get hj
            rw [List.getElem?_map] at hdd
            obtain ⟨x, hx', rfl⟩ := Option.map_eq_some_iff.mp hdd
            have hjl : j < O.length := (List.getElem?_eq_some_iff.mp hx').1
            obtain ⟨q, u6, rfl, hq, hu6⟩ := of_pr (pr_tup t5 hy)
            have vl := hi5.length
            rw [List.length_map, List.length_append, List.length_map, List.length_take] at vl
            have hbj := hb (j + 1) (by omega)
            refine ⟨q, _, rfl, SqT.of hq, rfl, _, _, rfl, _, _, rfl, rfl, ?_⟩
            refine ⟨_, rfl, .inl ⟨rfl, _, SqL.of hf5⟩, _, rfl, _, rfl, _, rfl, _, _, rfl, rfl, .inl ⟨by omega, by omega⟩, (by show 2 ≤ sizeLine; decide), fun q6 H6 n6 s6 h6 => ?_⟩
            refine ⟨fo, vs5, _, rfl, rfl, s6 _ _ hf5, lineB (by omega), ⟨_, _, rfl⟩, (s5.trans s6).put nf, by rw [upd_ne rlfo]; exact s6 _ _ hrl5, (t5.trans (TupS.of_same s6)).trans (TupS.upd (s6 _ _ hf5)), _, upd_same, ?_⟩
            have ez : (pr ++ (O.take (j + 1)).map fun x => (x.1, chF (t.getD p 0 + (h : Int)) h * x.2)) = (pr ++ (O.take j).map fun x => (x.1, chF (t.getD p 0 + (h : Int)) h * x.2)) ++ [(x.1, chF (t.getD p 0 + (h : Int)) h * x.2)] := by
              rw [List.take_add_one, hx', Option.toList_some, List.map_append, List.append_assoc]
              rfl
            rw [ez, List.map_append]
            refine (prs_tup ((TupS.of_same s6).trans (TupS.upd (s6 _ _ hf5))) hi5).append ?_
            exact iss_cons (pr_tup (TupS.upd (s6 _ _ hf5)) (is_pr (x := (x.1, chF (t.getD p 0 + (h : Int)) h * x.2)) h6 (hu6.mono s6))) iss_nil
          · rintro σ H5 ⟨⟨v7, v8, rfl⟩, s5, hrl5, t5, vs5, hf5, hi5⟩
            rw [rlen, List.take_length] at hi5
            exact ⟨⟨_, _, _, _, rfl⟩, s5, vs5, hf5, hi5⟩
        · rintro σ H2 ⟨⟨v5, v6, v7, v8, rfl⟩, s2, vs2, hf2, hi2⟩
          exact ⟨_, rfl, kk fo H2 s2 nf (is_l hf2 hi2)⟩
theorem ok_how_many_orders : FnOk P w K mg base CX0 9 T.f_how_many_orders T.d_how_many_orders ["d", "marks"] (spHMO K) := by
  refine T.F_how_many_orders.ok sc_how_many_orders (fun vs H Q E h => ?_) (fun cdv A outer s H vs Q E hr h => ?_)
  · obtain ⟨_, _, _, rfl, _⟩ := h
    rfl
  · obtain ⟨d, v, mk, rfl, d1, d5, hv, ⟨mok, mlen, mcap, m3, mfew⟩, kk⟩ := h
    refine ⟨_, (pss_cons (ps_set (i := 2) sc_how_many_orders.nd rfl (by first | exact Or.inl rfl | exact Or.inr rfl) (pe_disp1 (hu_of hr) (pe_callTy call_tuple_ofN (by rfl) T.n_tuple boot_tuple (pa_cons (pe_op op_repN (pe_lstN (pa_cons pe_int pa_nil)) (pv 0)) pa_nil)) pe_int))
      (pss_cons (ps_for PassesOwn.never rfl (pi_list (pe_ssetW (hu8_of hr) hr.hd (by rfl) T.n_sorted (by rfl) T.n_set (pa_cons (pv 1) pa_nil))) (pg_name (i := 3) sc_how_many_orders.nd rfl (by first | exact Or.inl rfl | exact Or.inr rfl)) (pss_cons (ps_set (i := 4) sc_how_many_orders.nd rfl (by first | exact Or.inl rfl | exact Or.inr rfl) pe_dnewT)
      (pss_cons (ps_for PassesOwn.never rfl (pi_dict (pv 2)) (pg_name (i := 5) sc_how_many_orders.nd rfl (by first | exact Or.inl rfl | exact Or.inr rfl)) (pss_one (ps_for PassesOwn.never rfl (pi_list (pe_call (ok_put_between T 6) (hr.mono (by decide)) (by rfl) T.m_put_between T.F_put_between.kp T.B_put_between .nil pass0 (pa_cons (pv 5) (pa_cons (pe_op op_sub (pe_ix ix_tupN (pv 3) pe_int (fun _ _ => rfl)) pe_int) (pa_cons (pe_op op_sub (pe_ix ix_tupN (pv 3) pe_int (fun _ _ => rfl)) pe_int) (pa_cons (pe_bm PySem.F.plainAttrs_list PySem.F.slot_list_count PySem.F.type_list_count (mt_countD hr) (pv 1) (pa_cons (pv 3) pa_nil)) pa_nil)))))) (pg_tup rfl (pgs_cons (pg_name (i := 6) sc_how_many_orders.nd rfl (by first | exact Or.inl rfl | exact Or.inr rfl)) (pgs_cons (pg_name (i := 7) sc_how_many_orders.nd rfl (by first | exact Or.inl rfl | exact Or.inr rfl)) pgs_nil))) (pss_one (ps_dput (hu_of hr) (pv 4) (pv 6) (pe_op op_add (pe_dget2 (hu_of hr) (pv 4) (pv 6) pe_int ⟨rfl, rfl, rfl, rfl⟩) (pe_op op_mul (pe_dget (hu_of hr) (pv 2) (pv 5) (fun _ _ => rfl)) (pv 7))) rfl)))))
      (pss_one (ps_set (i := 2) sc_how_many_orders.nd rfl (by first | exact Or.inl rfl | exact Or.inr rfl) (pv 4))))))
      (pss_one (ps_ret (pe_sumv rfl (by rfl) T.n_sum (pv 2)))))), ?_⟩
    obtain ⟨wa, wvs, rfl, hwa, hwi⟩ := of_l hv
    have wlen : wvs.length = mk.length := by rw [hwi.length, List.length_map]
    refine fun kd nkd => ?_
    have s0 : Same H (upd H kd (.dT [])) := Same.new nkd
    have hkd0 : upd H kd (.dT []) kd = some (.dT []) := upd_same
    generalize upd H kd (.dT []) = H0 at s0 hkd0 ⊢
    refine ⟨(by show 1 ≤ sizeLine; decide), fun l1 H1 n1 s1 h1 => ?_⟩
    refine ⟨_, rfl, .i 0, d, is_l h1 (iss_cons is_i iss_nil), rfl, by omega, by omega, Nat.le_of_lt (small1000 (by omega)), fun l2 H2 n2 s2 h2 => ?_⟩
    refine ⟨.ref l2, _, rfl, h2, fun t3 H3 n3 s3 h3 => ?_⟩
    have s03 := (s1.trans s2).trans s3
    have hkd3 := s03 _ _ hkd0
    rw [Int.toNat_natCast] at h3
    have ht3 : H3 t3 = some (.tup ((keyL (List.replicate d 0)).map kV)) := by
      rw [← List.map_replicate] at h3
      obtain ⟨a, e, ha⟩ := of_tI (xs := List.replicate d 0) h3
      cases e
      rw [keyL_kV]
      exact ha
    refine ⟨hkd3, keyL (List.replicate d 0), t3, rfl, ht3, ?_⟩
    have e0 : putK ([] : List (List Key × V)) (keyL (List.replicate d 0)) (.int 1) = tabK [(List.replicate d 0, 1)] := tabK_put [] _ _
    rw [e0]
    have sH : Same H (upd H3 kd (.dT (tabK [(List.replicate d 0, 1)]))) := (s0.trans s03).put nkd
    have hkd : upd H3 kd (.dT (tabK [(List.replicate d 0, 1)])) kd = some (.dT (tabK [(List.replicate d 0, 1)])) := upd_same
    generalize upd H3 kd (.dT (tabK [(List.replicate d 0, 1)])) = H4 at sH hkd ⊢
    clear h1 h2 h3 ht3 hkd3 s03 s1 s2 s3 n1 n2 n3 hkd0 s0 e0 H0 H1 H2 H3
    have tab0 : TabP (KC d (capF mk [])) [(List.replicate d 0, (1 : Int))] := by
      refine ⟨by simp, fun x hx => ?_⟩
      rw [List.mem_singleton.mp hx]
      refine ⟨by simp, fun i => ?_⟩
      rw [List.getD_eq_getElem?_getD, List.getElem?_replicate]
      split <;> simp [capF]
    refine ⟨_, rfl, .ref wa, mk.map row3, 3, rfl, by rw [← lfs_rows]; exact hv.mono sH, by decide, rows_len, ⟨(sset mk).map row3, by rw [List.length_map]; omega, fun xs hx => by
      obtain ⟨m, hm, rfl⟩ := List.mem_map.mp hx
      exact List.mem_map_of_mem (sset_mem.mpr hm)⟩, fun yss l0 H5 nd mem so nl0 s5 hq => ?_⟩
    have ey := sset_is nd mem so
    subst ey
    rw [← lfs_rows] at hq
    clear nd mem so
    have hhm : sumD [(List.replicate d 0, (1 : Int))] (TF (fun m => mk.count m) (sset mk)) = hmF d mk := by
      simp [sumD, hmF]
    have hS : ∀ m ∈ sset mk, m ∈ mk := fun m hm => sset_mem.mp hm
    have hSn := sset_nd mk
    generalize hcn : (fun m => mk.count m) = cnt at hhm
    generalize hmF d mk = tot at hhm kk
    generalize sset mk = S at hq hhm hS hSn
    obtain ⟨_, lvs, e, hl0, hli⟩ := of_l hq
    cases e
    have llen : lvs.length = S.length := by rw [hli.length, List.length_map]
    refine ⟨l0, rfl, ⟨_, SqL.of hl0⟩, for_list (xs := lvs) (fun i σ H6 => (∃ kd D, (∃ v3 v4 v5 v6 v7, σ = [some (.int d), some (.ref wa), some (.ref kd), v3, v4, v5, v6, v7]) ∧ H6 kd = some (.dT (tabK D)) ∧ TabP (KC d (capF mk (S.take i))) D ∧ sumD D (TF cnt (S.drop i)) = tot ∧ H kd = none) ∧ Same H H6 ∧ H6 l0 = some (.lst lvs) ∧ TupS H5 H6) ⟨⟨kd, _, ⟨none, none, none, none, none, rfl⟩, s5 _ _ hkd, tab0, hhm, nkd⟩, sH.trans s5, hl0, TupS.of_same (Same.refl H5)⟩ (fun i σ H6 _ h => SqL.of h.2.2.1) ?_ ?_⟩
    · rintro i y σ H6 hi ⟨⟨kd, D, ⟨v3, v4, v5, v6, v7, rfl⟩, hkd6, tab, hsum, nkd⟩, s6, hl6, t6⟩
      obtain ⟨dd, hdd, hy⟩ := hli.of_get hi
      rw [List.getElem?_map] at hdd
      obtain ⟨x, hx', rfl⟩ := Option.map_eq_some_iff.mp hdd
      have hil : i < S.length := (List.getElem?_eq_some_iff.mp hx').1
      have exi : S[i] = x := (List.getElem?_eq_some_iff.mp hx').2
      obtain ⟨ya, rfl, hya⟩ := of_lf hy
      obtain ⟨o1, o2, o3⟩ := mok x (hS x (List.mem_of_getElem? hx'))
      have hS1 : S.take (i + 1) = S.take i ++ [x] := by rw [List.take_add_one, hx']; rfl
      have cle : ∀ q, capF mk (S.take (i + 1)) q ≤ 26 := cap_le (hSn.sublist (List.take_sublist _ _)) mcap
      have cx : cnt x = mk.count x := by rw [← hcn]
      have ccle : ∀ q, capF mk (S.take i) q ≤ capF mk (S.take (i + 1)) q := fun q => by rw [hS1, cap_step]; omega
      rw [List.drop_eq_getElem_cons hil, exi, tf_cons] at hsum
      obtain ⟨p, hp⟩ : ∃ p : Nat, x.1 - 1 = (p : Int) := ⟨(x.1 - 1).toNat, by omega⟩
      obtain ⟨g, hg⟩ : ∃ g : Nat, x.2.1 - x.1 - 1 = (g : Int) := ⟨(x.2.1 - x.1 - 1).toNat, by omega⟩
      rw [hp, hg, Int.toNat_natCast, Int.toNat_natCast] at hsum
      have ccov : ∀ q : Nat, p ≤ q → q ≤ p + g → capF mk (S.take i) q + ((cnt x : Nat) : Int) ≤ capF mk (S.take (i + 1)) q := fun q a b => by
        have cv : cov q x = true := by unfold cov; rw [Bool.and_eq_true, decide_eq_true_eq, decide_eq_true_eq]; omega
        rw [hS1, cap_step, cap_cov cv, cx]
        exact Int.le_refl _
      have a3 : g = 0 ∨ cnt x ≤ 3 := by
        by_cases h0 : g = 0
        · exact .inl h0
        · refine .inr ?_
          rw [cx]
          exact m3 x (hS x (List.mem_of_getElem? hx')) (by omega)
      have rok : RowsP p (KC d (capF mk (S.take i))) (KC d (capF mk (S.take (i + 1)))) (spR g (cnt x)) := fun r hr t ht => by
        obtain ⟨e1, e2⟩ := spR_len hr
        exact ht.add (by omega) ccle fun q a b => by rw [e2]; exact ccov q a (by omega)
      obtain ⟨tab', sum'⟩ := stP_w rok (TF cnt (S.drop (i + 1))) tab.key (acc := []) TabP.nil
      refine fun f nf => ?_
      have s7 : Same H6 (upd H6 f (.dT [])) := Same.new nf
      have hf7 : upd H6 f (.dT []) f = some (.dT (tabK [])) := upd_same
      have nfH : H f = none := s6.free nf
      have fkd : f ≠ kd := by rintro rfl; rw [hkd6] at nf; cases nf
      generalize upd H6 f (.dT []) = H7 at s7 hf7 ⊢
      refine ⟨_, rfl, kd, tabK D, rfl, .inl (s7 _ _ hkd6), fun o H8 hk8 same8 => ?_⟩
      have l8 : LTS H7 H8 := LTS.rd (.inl (s7 _ _ hkd6)) same8
      have s8 : Same H H8 := fun b u e => by rw [same8 b (by rintro rfl; rw [nkd] at e; cases e)]; exact s7 _ _ (s6 _ _ e)
      refine for_dict (fun j σ H9 => (∃ v5 v6 v7, σ = [some (.int d), some (.ref wa), some (.ref kd), some (.ref ya), some (.ref f), v5, v6, v7]) ∧ Same H H9 ∧ H9 kd = some (.frz o (.dT (tabK D))) ∧ H9 l0 = some (.lst lvs) ∧ TupS H5 H9 ∧ H9 f = some (.dT (tabK (stP p (spR g (cnt x)) (D.take j) [])))) ⟨⟨_, _, _, rfl⟩, s8, hk8, l8.1 _ _ (s7 _ _ hl6), (t6.trans (TupS.of_same s7)).trans l8.2, by rw [same8 f fkd]; exact hf7⟩ (fun j σ H9 _ h => h.2.2.1) ?_ ?_
      · rintro j k c b σ H9 hj ⟨⟨v5, v6, v7, rfl⟩, s9, hk9, hl9, t9, hf9⟩ hb
        unfold tabK at hj
        rw [List.getElem?_map] at hj
        obtain ⟨⟨t, cv⟩, hD, ekc⟩ := Option.map_eq_some_iff.mp hj
        simp only [Prod.mk.injEq] at ekc
        obtain ⟨rfl, rfl⟩ := ekc
        rw [keyL_kV] at hb
        have hDm : (t, cv) ∈ D := List.mem_of_getElem? hD
        have kt : KC d (capF mk (S.take i)) t := tab.key _ hDm
        have k1 : t.length = d := kt.1
        have k3 : ∀ i : Nat, 0 ≤ t.getD i 0 := fun i => (kt.2 i).1
        have k26 : ∀ i : Nat, p ≤ i → i ≤ p + g → t.getD i 0 + ((cnt x : Nat) : Int) ≤ 26 := fun q a b => by
          have := (kt.2 q).2
          have := ccov q a b
          have := cle q
          omega
        have hx9 : Is H9 (lf x) (.ref ya) := is_lf (t9 _ _ hya)
        have hw9 := hwi.mono s9
        rw [fold_step_P hD]
        have tabac := (stP_w rok (fun _ => 0) (xs := D.take j) (fun y hy => tab.key y (List.mem_of_mem_take hy)) (acc := []) TabP.nil).1
        generalize stP p (spR g (cnt x)) (D.take j) [] = ac at hf9 tabac ⊢
        refine ⟨_, rfl, _, rfl, _, 0, _, hx9, rfl, rfl, fun u1 hu1 => ?_⟩
        rw [of_i hu1]
        refine ⟨_, _, rfl, rfl, _, rfl, _, 1, _, hx9, rfl, rfl, fun u2 hu2 => ?_⟩
        rw [of_i hu2]
        refine ⟨_, _, rfl, rfl, _, rfl, .inl ⟨rfl, _, SqL.of (s9 _ _ hwa)⟩, _, rfl, wa, wvs, .ref ya, 1, _, rfl, rfl, SqL.of (s9 _ _ hwa), told2_m hw9 hx9, ?_⟩
        rw [wlen, count_at]
        refine ⟨.ref b, t, p, g, cnt x, ?_, is_tI hb, by omega, by decide, by omega, ⟨by omega, k3, k26, a3⟩, fun rl H10 s10 nrl hrl => ?_⟩
        · show [V.ref b, V.int (x.1 - 1), V.int (x.2.1 - 2), V.int (mk.count x : Nat)] = _
          rw [hp, show x.2.1 - 2 = (p : Int) + (g : Int) by omega, ← hcn]
        rw [pb_eq (by omega), List.map_map] at hrl
        obtain ⟨_, rvs, e, hrl10, hri⟩ := of_l hrl
        cases e
        have hrs : ∀ r ∈ spR g (cnt x), r.length = g + 1 ∧ r.sum = cnt x := fun r hr => spR_len hr
        generalize spR g (cnt x) = rs at hri rok hrs ⊢
        have rlen : rvs.length = rs.length := by rw [hri.length, List.length_map]
        have hk10 := s10 _ _ hk9
        have hf10 := s10 _ _ hf9
        have rlf : rl ≠ f := by rintro rfl; rw [hf9] at nrl; cases nrl
        have l0f : l0 ≠ f := by rintro rfl; rw [hl9] at hf9; cases hf9
        refine ⟨rl, rfl, ⟨_, SqL.of hrl10⟩, for_list (xs := rvs) (fun m σ H11 => (∃ v6 v7, σ = [some (.int d), some (.ref wa), some (.ref kd), some (.ref ya), some (.ref f), some (.ref b), v6, v7]) ∧ Same H H11 ∧ H11 kd = some (.frz o (.dT (tabK D))) ∧ H11 l0 = some (.lst lvs) ∧ TupS H10 H11 ∧ H11 rl = some (.lst rvs) ∧ H11 f = some (.dT (tabK (inP t cv p (rs.take m) ac)))) ⟨⟨_, _, rfl⟩, s9.trans s10, hk10, s10 _ _ hl9, TupS.of_same (Same.refl H10), hrl10, hf10⟩ (fun m σ H11 _ h => SqL.of h.2.2.2.2.2.1) ?_ ?_⟩
        · rintro m z σ H11 hm ⟨⟨v6, v7, rfl⟩, s11, hk11, hl11, t11, hrl11, hf11⟩
          obtain ⟨dd, hdd, hz⟩ := hri.of_get hm
          rw [List.getElem?_map] at hdd
          obtain ⟨r, hr', rfl⟩ := Option.map_eq_some_iff.mp hdd
          obtain ⟨q, u6, rfl, hq, hu6⟩ := of_pr (pr_tup t11 hz)
          obtain ⟨ua, rfl, hua⟩ := of_tI hu6
          obtain ⟨r1, r2⟩ := hrs r (List.mem_of_getElem? hr')
          have hua' : H11 ua = some (.tup ((keyL (addR t p r)).map kV)) := by rw [keyL_kV]; exact hua
          have hb11 : H11 b = some (.tup ((keyL t).map kV)) := by rw [keyL_kV]; exact t11 _ _ (s10 _ _ hb)
          have tabm := (inP_w (v := cv) kt (fun _ => 0) (rs := rs.take m) (fun r hr => rok r (List.mem_of_mem_take hr)) tabac).1
          refine ⟨q, _, rfl, SqT.of hq, rfl, _, _, rfl, _, _, rfl, rfl, ?_⟩
          refine ⟨_, rfl, f, rfl, .inr ⟨_, .inl hf11⟩, _, rfl, _, DGet.t hf11 hua', ?_⟩
          rw [tabK_get]
          refine ⟨_, rfl, _, rfl, kd, .int cv, rfl, .inr ⟨tabK D, keyL t, b, .inr ⟨o, hk11⟩, rfl, hb11, (tabK_at tab.nd hDm).symm⟩, _, rfl, _, _, rfl, rfl, .inr (rowP_w k3 ⟨r1, r2⟩ k26 (by omega) a3), _, _, rfl, rfl, _, rfl, _, rfl, f, _, rfl, DPut.t hf11 hua' ?_, ?_⟩
          · rw [tabK_len]
            exact lineB (tabm.size d5 cle)
          · rw [show inP t cv p (rs.take (m + 1)) ac = addD (inP t cv p (rs.take m) ac) (addR t p r) (cv * rowP t p r) from fold_take _ _ rs m r hr']
            rw [tabK_put]
            exact ⟨⟨_, _, rfl⟩, s11.put nfH, by rw [upd_ne fkd.symm]; exact hk11, by rw [upd_ne l0f]; exact hl11, t11.trans (tup_dict hf11), by rw [upd_ne rlf]; exact hrl11, upd_same⟩
        · rintro σ H11 ⟨⟨v6, v7, rfl⟩, s11, hk11, hl11, t11, hrl11, hf11⟩
          rw [rlen, List.take_length] at hf11
          exact ⟨⟨_, _, _, rfl⟩, s11, hk11, hl11, (t9.trans (TupS.of_same s10)).trans t11, hf11⟩
      · rintro σ H9 ⟨⟨v5, v6, v7, rfl⟩, s9, hk9, hl9, t9, hf9⟩
        rw [tabK_len, List.take_length] at hf9
        refine ⟨_, rfl, ⟨f, _, ⟨_, _, _, _, _, rfl⟩, hf9, tab', ?_, nfH⟩, s9, hl9, t9⟩
        rw [sum', hsum]
        simp [sumD]
    · rintro σ H6 ⟨⟨kd, D, ⟨v3, v4, v5, v6, v7, rfl⟩, hkd6, tab, hsum, nkd⟩, s6, hl6, t6⟩
      refine ⟨_, rfl, kd, tabK D, D.map (·.2), rfl, .inl hkd6, tabK_vals D, ?_⟩
      rw [llen, List.drop_length] at hsum
      have : (D.map (·.2)).sum = tot := by rw [← sumD_one, ← hsum]; rfl
      rw [this]
      exact kk H6 s6
theorem ok_length : FnOk P w K mg base CX0 1 T.f_length T.d_length ["template"] (spLen K) := by
  refine T.F_length.ok sc_length (fun vs H Q E h => ?_) (fun cdv A outer s H vs Q E hr h => ?_)
  · obtain ⟨_, _, rfl, _⟩ := h
    rfl
  · obtain ⟨v, ps, rfl, hv, hne, hl, kk⟩ := h
    refine ⟨_, (pss_one (ps_ret (pe_callB (call_max1 rfl) (by rfl) T.n_max boot_max (pa_cons (pe_compB (XN := ["template"]) (sc := defScope s_length) (N := ["lift"]) (own := 1) (js := []) rfl (by decide +kernel) rfl rfl (pi_list (pv 0)) (fun _ _ _ _ => (pg_name (i := 0) (show List.Nodup (["lift"] : List Str) by decide +kernel) rfl (Or.inl rfl) (.inr rfl))) (ownG_name (by decide)) (fun _ _ _ _ => pifs_nil) (fun _ _ _ _ => (pe_ix ix_tupN (pv 0) pe_int (fun _ _ => rfl)))) pa_nil)))), ?_⟩
    obtain ⟨da, dvs, rfl, hda, hdi⟩ := of_l hv
    have dlen : dvs.length = ps.length := by rw [hdi.length, List.length_map]
    refine ⟨_, rfl, da, rfl, ⟨_, SqL.of hda⟩, fun acc na => ?_⟩
    refine comp_list (xs := dvs) (own := 1) (js := []) (fun j H4 => Same H H4 ∧ H4 acc = some (.lst (((ps.take j).map (·.2.1)).map V.int))) ⟨Same.new na, upd_same⟩ (fun j H4 _ h => SqL.of (h.1 _ _ hda)) ?_ ?_ mono_name mono_yes ?_
    · rintro j x H4 hj ⟨s4, hacc⟩
      obtain ⟨dd, hdd, hy⟩ := hdi.of_get hj
      rw [List.getElem?_map] at hdd
      obtain ⟨p, hp', rfl⟩ := Option.map_eq_some_iff.mp hdd
      refine yesN ?_
      refine ⟨_, rfl, _, 1, _, hy.mono s4, rfl, rfl, fun u hu => ?_⟩
      rw [of_i hu]
      refine ⟨acc, _, _, rfl, rfl, hacc, small1000 ?_, s4.put na, ?_⟩
      · rw [List.length_map, List.length_map, List.length_take]; omega
      · rw [upd_same, List.take_add_one, hp', List.map_append, List.map_append]; rfl
    · rintro H4 ⟨s4, hacc⟩
      rw [dlen, List.take_length] at hacc
      exact ⟨acc, _, rfl, SqL.of hacc, by rw [List.length_map]; exact List.length_pos_iff.mpr hne, kk H4 s4⟩
    · rintro σ H R R' k ⟨v1, e1, xs, i, d, h1, e2, e3, h⟩
      exact ⟨v1, e1, xs, i, d, h1, e2, e3, fun u hu => k _ _ (h u hu)⟩
theorem ok_load : FnOk P w K mg base CX0 1 T.f_load T.d_load ["template", "j"] (spLoad K) := by
  refine T.F_load.ok sc_load (fun vs H Q E h => ?_) (fun cdv A outer s H vs Q E hr h => ?_)
  · obtain ⟨_, _, _, rfl, _⟩ := h
    rfl
  · obtain ⟨v, ps, j, rfl, hv, hl, kk⟩ := h
    refine ⟨_, (pss_one (ps_ret (pe_callB (call_sum rfl) (by rfl) T.n_sum boot_sum (pa_cons (pe_compB (XN := ["template", "j"]) (sc := defScope s_load) (N := ["lift", "j"]) (own := 1) (js := [1]) rfl (by decide +kernel) rfl rfl (pi_list (pv 0)) (fun _ _ _ _ => (pg_name (i := 0) (show List.Nodup (["lift", "j"] : List Str) by decide +kernel) rfl (Or.inl rfl) (.inr rfl))) (ownG_name (by decide)) (fun _ _ _ _ => (pifs_one (pt_chain op_lt op_le (pe_ix ix_tupN (pv 0) pe_int (fun _ _ => rfl)) (pv 1) (pe_ix ix_tupN (pv 0) pe_int (fun _ _ => rfl))))) (fun _ _ _ _ => (pe_ix ix_tupN (pv 0) pe_int (fun _ _ => rfl)))) pa_nil)))), ?_⟩
    obtain ⟨da, dvs, rfl, hda, hdi⟩ := of_l hv
    have dlen : dvs.length = ps.length := by rw [hdi.length, List.length_map]
    refine ⟨_, rfl, da, rfl, ⟨_, SqL.of hda⟩, fun acc na => ?_⟩
    refine comp_list (xs := dvs) (own := 1) (js := [1]) (fun i H4 => Same H H4 ∧ H4 acc = some (.lst ((((ps.take i).filter (inF j)).map (·.2.2)).map V.int))) ⟨Same.new na, upd_same⟩ (fun i H4 _ h => SqL.of (h.1 _ _ hda)) ?_ ?_ mono_name ?_ ?_
    · rintro i x H4 hj ⟨s4, hacc⟩
      obtain ⟨dd, hdd, hy⟩ := hdi.of_get hj
      rw [List.getElem?_map] at hdd
      obtain ⟨p, hp', rfl⟩ := Option.map_eq_some_iff.mp hdd
      have hlf : Is H4 (lf p) x := hy.mono s4
      have stay : inF j p = false → H4 acc = some (.lst ((((ps.take (i + 1)).filter (inF j)).map (·.2.2)).map V.int)) := fun e => by
        rw [hacc, List.take_add_one, hp', List.filter_append, List.map_append, List.map_append]
        simp [e]
      refine ⟨_, rfl, _, 0, _, hlf, rfl, rfl, fun u hu => ?_⟩
      rw [of_i hu]
      refine ⟨_, rfl, _, _, rfl, rfl, _, rfl, iteD (fun h1 => ?_) (fun h1 => ?_)⟩
      · refine ⟨_, rfl, _, 1, _, hlf, rfl, rfl, fun u hu => ?_⟩
        rw [of_i hu]
        refine ⟨_, _, rfl, rfl, _, rfl, iteD (fun h2 => ?_) (fun h2 => ?_)⟩
        · have e : inF j p = true := by unfold inF; rw [decide_eq_true h1, decide_eq_true h2]; rfl
          refine ⟨_, rfl, _, 2, _, hlf, rfl, rfl, fun u hu => ?_⟩
          rw [of_i hu]
          refine ⟨acc, _, _, rfl, rfl, hacc, small1000 ?_, s4.put na, ?_⟩
          · rw [List.length_map, List.length_map]
            have := List.length_filter_le (inF j) (ps.take i)
            rw [List.length_take] at this
            omega
          · rw [upd_same, List.take_add_one, hp', List.filter_append, List.map_append, List.map_append]
            simp [e]
        · exact ⟨s4, stay (by unfold inF; rw [decide_eq_false h2, Bool.and_false])⟩
      · exact ⟨false, rfl, iteF ⟨s4, stay (by unfold inF; rw [decide_eq_false h1]; rfl)⟩⟩
    · rintro H4 ⟨s4, hacc⟩
      rw [dlen, List.take_length] at hacc
      exact ⟨acc, _, rfl, SqL.of hacc, kk H4 s4⟩
    · rintro σ H R R' k h
      obtain ⟨v1, e1, xs, i, d, h1, e2, e3, h⟩ := h
      refine ⟨v1, e1, xs, i, d, h1, e2, e3, fun u hu => ?_⟩
      obtain ⟨v2, e4, i1, j1, e5, e6, b, e7, h⟩ := h u hu
      refine ⟨v2, e4, i1, j1, e5, e6, b, e7, ?_⟩
      cases b with
      | true =>
        obtain ⟨v1, e1, xs, i, d, h1, e2, e3, h⟩ := h
        refine ⟨v1, e1, xs, i, d, h1, e2, e3, fun u hu => ?_⟩
        obtain ⟨i1, j1, e5, e6, b, e7, h⟩ := h u hu
        exact ⟨i1, j1, e5, e6, b, e7, k _ _ h⟩
      | false =>
        obtain ⟨b, e7, h⟩ := h
        exact ⟨b, e7, k _ _ h⟩
    · rintro σ H R R' k ⟨v1, e1, xs, i, d, h1, e2, e3, h⟩
      exact ⟨v1, e1, xs, i, d, h1, e2, e3, fun u hu => k _ _ (h u hu)⟩
theorem ok_least_place : FnOk P w K mg base CX0 2 T.f_least_place T.d_least_place ["template"] (spLeast K) := by
  refine T.F_least_place.ok sc_least_place (fun vs H Q E h => ?_) (fun cdv A outer s H vs Q E hr h => ?_)
  · obtain ⟨_, _, rfl, _⟩ := h
    rfl
  · obtain ⟨v, ps, rfl, hv, hok, kk⟩ := h
    refine ⟨_, (pss_one (ps_ret (pe_callB (call_max1 rfl) (by rfl) T.n_max boot_max (pa_cons (pe_compB (XN := ["template"]) (sc := defScope s_least_place) (N := ["j", "template"]) (own := 1) (js := [0]) rfl (by decide +kernel) rfl rfl (pi_range2 (by rfl) T.n_range (pa_cons pe_int (pa_cons (pe_op op_add (pe_call (ok_length T) (hr.mono (by decide)) (by rfl) T.m_length T.F_length.kp T.B_length .nil pass0 (pa_cons (pv 0) pa_nil)) pe_int) pa_nil))) (fun _ _ _ _ => (pg_name (i := 0) (show List.Nodup (["j", "template"] : List Str) by decide +kernel) rfl (Or.inl rfl) (.inr rfl))) (ownG_name (by decide)) (fun _ _ _ _ => pifs_nil) (fun _ _ _ _ => (pe_op op_add (pe_op op_sub (pe_call (ok_load T) (hr.mono (by decide)) (by rfl) T.m_load T.F_load.kp T.B_load .nil pass0 (pa_cons (pv 1) (pa_cons (pv 0) pa_nil))) (pv 0)) pe_int))) pa_nil)))), ?_⟩
    have ln := len_ok hok
    obtain ⟨n, hn⟩ := Int.eq_ofNat_of_zero_le (show 0 ≤ lenF ps by omega)
    have hne : ps ≠ [] := by obtain ⟨_, _, p, hm, _⟩ := hok; rintro rfl; cases hm
    refine ⟨_, rfl, v, ps, rfl, hv, hne, hok.1, fun H1 s1 => ?_⟩
    rw [hn]
    refine ⟨_, _, rfl, rfl, 1, _, rfl, ⟨by decide, by decide, by omega, by omega⟩, fun acc na => ?_⟩
    have en : ((n : Int) + 1 - 1).toNat = n := by omega
    rw [en]
    refine comp_range (lo := 1) (n := n) (own := 1) (js := [0]) (fun i H2 => Same H1 H2 ∧ H2 acc = some (.lst ((leastL ps i).map V.int))) ⟨Same.new na, upd_same⟩ ?_ ?_ mono_name mono_yes ?_
    · rintro i H2 hi ⟨s2, hacc⟩
      refine yesN ?_
      refine ⟨_, rfl, _, rfl, v, ps, _, rfl, hv.mono (s1.trans s2), hok.1, fun H3 s3 => ?_⟩
      refine ⟨_, rfl, _, _, rfl, rfl, _, _, rfl, rfl, acc, _, _, rfl, rfl, s3 _ _ hacc, small1000 (by rw [List.length_map, least_len]; omega), (s2.trans s3).put na, ?_⟩
      rw [upd_same]
      unfold leastL
      rw [List.range_succ, List.map_append, List.map_append]
      rfl
    · rintro H2 ⟨s2, hacc⟩
      rw [hn, Int.toNat_natCast] at kk
      exact ⟨acc, _, rfl, SqL.of hacc, by rw [least_len]; omega, kk H2 (s1.trans s2)⟩
    · rintro σ H R R' k ⟨v1, e1, v2, e2, v3, qs, j, e3, h1, h2, h⟩
      refine ⟨v1, e1, v2, e2, v3, qs, j, e3, h1, h2, fun H' s' => ?_⟩
      obtain ⟨v4, e4, i1, j1, e5, e6, i2, j2, e7, e8, h⟩ := h H' s'
      exact ⟨v4, e4, i1, j1, e5, e6, i2, j2, e7, e8, k _ _ h⟩
theorem ok__law_crossings : FnOk P w K mg base CX0 1 T.f__law_crossings T.d__law_crossings ["_law_lifts"] (spCross K) := by
  refine T.F__law_crossings.ok sc__law_crossings (fun vs H Q E h => ?_) (fun cdv A outer s H vs Q E hr h => ?_)
  · obtain ⟨_, _, rfl, _⟩ := h
    rfl
  · obtain ⟨v, ps, rfl, hv, hl, hp, kk⟩ := h
    refine ⟨_, (pss_one (ps_ret (pe_callB (call_sum rfl) (by rfl) T.n_sum boot_sum (pa_cons (pe_compB (XN := ["_law_lifts"]) (sc := defScope s__law_crossings) (N := ["_law_lift"]) (own := 1) (js := []) rfl (by decide +kernel) rfl rfl (pi_list (pv 0)) (fun _ _ _ _ => (pg_name (i := 0) (show List.Nodup (["_law_lift"] : List Str) by decide +kernel) rfl (Or.inl rfl) (.inr rfl))) (ownG_name (by decide)) (fun _ _ _ _ => pifs_nil) (fun _ _ _ _ => (pe_op op_sub (pe_op op_mul (pe_op op_sub (pe_ix ix_tupN (pv 0) pe_int (fun _ _ => rfl)) (pe_ix ix_tupN (pv 0) pe_int (fun _ _ => rfl))) (pe_ix ix_tupN (pv 0) pe_int (fun _ _ => rfl))) pe_int))) pa_nil)))), ?_⟩
    obtain ⟨da, dvs, rfl, hda, hdi⟩ := of_l hv
    have dlen : dvs.length = ps.length := by rw [hdi.length, List.length_map]
    refine ⟨_, rfl, da, rfl, ⟨_, SqL.of hda⟩, fun acc na => ?_⟩
    refine comp_list (xs := dvs) (own := 1) (js := []) (fun j H4 => Same H H4 ∧ H4 acc = some (.lst (((ps.take j).map fun p => (p.2.1 - p.1) * p.2.2 - 1).map V.int))) ⟨Same.new na, upd_same⟩ (fun j H4 _ h => SqL.of (h.1 _ _ hda)) ?_ ?_ mono_name mono_yes ?_
    · rintro j x H4 hj ⟨s4, hacc⟩
      obtain ⟨dd, hdd, hy⟩ := hdi.of_get hj
      rw [List.getElem?_map] at hdd
      obtain ⟨p, hp', rfl⟩ := Option.map_eq_some_iff.mp hdd
      have hlf : Is H4 (lf p) x := hy.mono s4
      obtain ⟨p1, p2, p3, p4, p5⟩ := hp p (List.mem_of_getElem? hp')
      refine yesN ?_
      refine ⟨_, rfl, _, 1, _, hlf, rfl, rfl, fun u hu => ?_⟩
      rw [of_i hu]
      refine ⟨_, rfl, _, 0, _, hlf, rfl, rfl, fun u hu => ?_⟩
      rw [of_i hu]
      refine ⟨_, _, rfl, rfl, _, rfl, _, 2, _, hlf, rfl, rfl, fun u hu => ?_⟩
      rw [of_i hu]
      refine ⟨_, _, rfl, rfl, .inr ⟨by omega, by omega⟩, _, _, rfl, rfl, acc, _, _, rfl, rfl, hacc, small1000 ?_, s4.put na, ?_⟩
      · rw [List.length_map, List.length_map, List.length_take]; omega
      · rw [upd_same, List.take_add_one, hp', List.map_append, List.map_append]; rfl
    · rintro H4 ⟨s4, hacc⟩
      rw [dlen, List.take_length] at hacc
      exact ⟨acc, _, rfl, SqL.of hacc, kk H4 s4⟩
    · rintro σ H R R' k ⟨v1, e1, xs, i, d, h1, e2, e3, h⟩
      refine ⟨v1, e1, xs, i, d, h1, e2, e3, fun u hu => ?_⟩
      obtain ⟨v1, e1, xs, i, d, h1, e2, e3, h⟩ := h u hu
      refine ⟨v1, e1, xs, i, d, h1, e2, e3, fun u hu => ?_⟩
      obtain ⟨i1, j1, e4, e5, v1, e1, xs, i, d, h1, e2, e3, h⟩ := h u hu
      refine ⟨i1, j1, e4, e5, v1, e1, xs, i, d, h1, e2, e3, fun u hu => ?_⟩
      obtain ⟨i1, j1, e4, e5, c, i2, j2, e6, e7, h⟩ := h u hu
      exact ⟨i1, j1, e4, e5, c, i2, j2, e6, e7, k _ _ h⟩
theorem ok__law_one_more : FnOk P w K mg base CX0 3 T.f__law_one_more T.d__law_one_more ["_law_bag_here", "_law_lifts", "_law_room"] (spMore K) := by
  refine T.F__law_one_more.ok sc__law_one_more (fun vs H Q E h => ?_) (fun cdv A outer s H vs Q E hr h => ?_)
  · obtain ⟨_, _, _, _, _, _, rfl, _⟩ := h
    rfl
  · obtain ⟨b, dr, ps, room, far, st, rfl, hb, hf, hst, nb, hv, hl, hp, hh, hro, kk⟩ := h
    refine ⟨_, (pss_cons (ps_set (i := 3) sc__law_one_more.nd rfl (by first | exact Or.inl rfl | exact Or.inr rfl) (pe_maxd rfl (by rfl) T.n_max (pa_cons (pe_compB (XN := ["_law_bag_here", "_law_lifts", "_law_room", "_law_end", "_law_some", "_law_low", "_law_high", "_law_weight"]) (sc := defScope s__law_one_more) (N := ["_law_lift"]) (own := 1) (js := []) rfl (by decide +kernel) rfl rfl (pi_list (pv 1)) (fun _ _ _ _ => (pg_name (i := 0) (show List.Nodup (["_law_lift"] : List Str) by decide +kernel) rfl (Or.inl rfl) (.inr rfl))) (ownG_name (by decide)) (fun _ _ _ _ => pifs_nil) (fun _ _ _ _ => (pe_ix ix_tupN (pv 0) pe_int (fun _ _ => rfl)))) pa_nil) (pk_cons pe_int pk_nil)))
      (pss_cons (ps_set (i := 4) sc__law_one_more.nd rfl (by first | exact Or.inl rfl | exact Or.inr rfl) (pe_lstN pa_nil))
      (pss_cons (ps_for PassesOwn.never rfl (pi_range1 (by rfl) T.n_range (pa_cons (pv 3) pa_nil)) (pg_name (i := 5) sc__law_one_more.nd rfl (by first | exact Or.inl rfl | exact Or.inr rfl)) (pss_one (ps_for PassesOwn.never rfl (pi_range2 (by rfl) T.n_range (pa_cons (pe_op op_add (pv 5) pe_int) (pa_cons (pe_op op_add (pv 3) pe_int) pa_nil))) (pg_name (i := 6) sc__law_one_more.nd rfl (by first | exact Or.inl rfl | exact Or.inr rfl)) (pss_one (ps_for PassesOwn.never rfl (pi_range2 (by rfl) T.n_range (pa_cons pe_int (pa_cons pe_int pa_nil))) (pg_name (i := 7) sc__law_one_more.nd rfl (by first | exact Or.inl rfl | exact Or.inr rfl)) (pss_one (ps_if (pw_and (pt_chain op_le op_le pe_int (pe_op op_mul (pe_op op_sub (pv 6) (pv 5)) (pv 7)) (pe_op op_add (pv 2) pe_int)) (pw_and1 (pw_or (pt_cmpR (op_neS hr) (pv 1) (pe_lstN pa_nil) (nomark _)) (pw_or1 (pt_cmpR op_eq (pv 5) pe_int (nomark _)))).pt)).pt (pss_one (ps_expr (pe_bm PySem.F.plainAttrs_list PySem.F.slot_list_append PySem.F.type_list_append mt_append (pv 4) (pa_cons (pe_tupN (pa_cons (pv 5) (pa_cons (pv 6) (pa_cons (pv 7) pa_nil)))) pa_nil)))) pss_nil)))))))
      (pss_one (ps_ret (pe_ix ix_list (pv 4) (pe_call (ok__law_digit T) (hr.mono (by decide)) (by rfl) T.m__law_digit T.F__law_digit.kp T.B__law_digit .nil pass0 (pa_cons (pv 0) (pa_cons (pe_callB call_len_seq (by rfl) T.n_len boot_len (pa_cons (pv 4) pa_nil)) pa_nil))) (fun _ _ => rfl))))))), ?_⟩
    obtain ⟨_, dvs, e, hda, hdi⟩ := of_l hv
    cases e
    have dlen : dvs.length = ps.length := by rw [hdi.length, List.length_map]
    refine ⟨_, rfl, dr, rfl, ⟨_, SqL.of hda⟩, fun acc na => ?_⟩
    refine comp_list (xs := dvs) (own := 1) (js := []) (fun j H4 => Same H H4 ∧ H4 acc = some (.lst (((ps.take j).map (·.2.1)).map V.int))) ⟨Same.new na, upd_same⟩ (fun j H4 _ h => SqL.of (h.1 _ _ hda)) ?_ ?_ mono_name mono_yes ?_
    · rintro j x H4 hj ⟨s4, hacc⟩
      obtain ⟨dd, hdd, hy⟩ := hdi.of_get hj
      rw [List.getElem?_map] at hdd
      obtain ⟨p, hp', rfl⟩ := Option.map_eq_some_iff.mp hdd
      refine yesN ?_
      refine ⟨_, rfl, _, 1, _, hy.mono s4, rfl, rfl, fun u hu => ?_⟩
      rw [of_i hu]
      refine ⟨acc, _, _, rfl, rfl, hacc, small1000 ?_, s4.put na, ?_⟩
      · rw [List.length_map, List.length_map, List.length_take]; omega
      · rw [upd_same, List.take_add_one, hp', List.map_append, List.map_append]; rfl
    · rintro H4 ⟨s4, hacc⟩
      rw [dlen, List.take_length] at hacc
      refine ⟨acc, _, 1, rfl, rfl, SqL.of hacc, ?_⟩
      obtain ⟨n, hn, n1, n2⟩ : ∃ n : Nat, (if (ps.map (·.2.1)).length = 0 then 1 else maxL (ps.map (·.2.1))) = (n : Int) ∧ 1 ≤ n ∧ (n : Int) ≤ 1 + 3 * (ps.length : Int) := by
        by_cases h0 : ps.length = 0
        · exact ⟨1, by rw [if_pos (by rw [List.length_map]; exact h0)]; rfl, by omega, by omega⟩
        · have hm := maxL_mem (ns := ps.map (·.2.1)) (by rw [List.length_map]; omega)
          obtain ⟨p, hpm, hpe⟩ := List.mem_map.mp hm
          have hpe : p.2.1 = maxL (ps.map (·.2.1)) := hpe
          obtain ⟨p1, p2, p3, p4, p5⟩ := hp p hpm
          have p6 := hh p hpm
          exact ⟨p.2.1.toNat, by rw [if_neg (by rw [List.length_map]; exact h0), ← hpe]; omega, by omega, by omega⟩
      have hE : endF ps = (n : Int) := hn
      rw [hn]
      refine ⟨Nat.zero_le _, fun so H5 n5 s5 h5 => ?_⟩
      have nso : H so = none := s4.free n5
      have sob : so ≠ b := fun z => by rw [z, show H b = _ from hb] at nso; cases nso
      have sH5 : Same H H5 := s4.trans s5
      refine ⟨_, rfl, _, rfl, by omega, by omega, ?_⟩
      rw [Int.toNat_natCast]
      refine for_range (lo := 0) (n := n) (fun i σ H6 => (∃ v5 v6 v7, σ = [some (.ref b), some (.ref dr), some (.int room), some (.int n), some (.ref so), v5, v6, v7]) ∧ SoI H H6 so ps room (60 * i) (1 ≤ i)) ⟨⟨none, none, none, rfl⟩, sH5, [], [], h5, iss_nil, (fun _ z => nomatch z), Nat.le_refl _, fun z => absurd z (by decide)⟩ ?_ ?_
      · rintro i σ H6 hi ⟨⟨v5, v6, v7, rfl⟩, so6⟩
        refine ⟨_, rfl, _, _, rfl, rfl, _, rfl, _, _, rfl, rfl, _, _, rfl, ⟨by omega, by omega, by omega, by omega⟩, ?_⟩
        have en : ((n : Int) + 4 - (0 + (i : Int) + 1)).toNat = n + 3 - i := by omega
        rw [en]
        refine for_range (lo := 0 + (i : Int) + 1) (n := n + 3 - i) (fun j σ H7 => (∃ v6 v7, σ = [some (.ref b), some (.ref dr), some (.int room), some (.int n), some (.ref so), some (.int (0 + (i : Int))), v6, v7]) ∧ SoI H H7 so ps room (60 * i + 4 * j) (1 ≤ i ∨ 2 ≤ j)) ⟨⟨v6, v7, rfl⟩, so6.weak (by omega) (by omega)⟩ ?_ ?_
        · rintro j σ H7 hj ⟨⟨v6, v7, rfl⟩, so7⟩
          refine ⟨_, _, rfl, ⟨by decide, by decide, by decide, by decide⟩, ?_⟩
          rw [show ((5 : Int) - 1).toNat = 4 from rfl]
          refine for_range (lo := 1) (n := 4) (fun k σ H8 => (∃ v7, σ = [some (.ref b), some (.ref dr), some (.int room), some (.int n), some (.ref so), some (.int (0 + (i : Int))), some (.int (0 + (i : Int) + 1 + (j : Int))), v7]) ∧ SoI H H8 so ps room (60 * i + 4 * j + k) (1 ≤ i ∨ 2 ≤ j ∨ (j = 1 ∧ 1 ≤ k))) ⟨⟨v7, rfl⟩, so7.weak (by omega) (by omega)⟩ ?_ ?_
          · rintro k σ H8 hk ⟨⟨v7, rfl⟩, so8⟩
            refine ⟨_, rfl, _, rfl, _, _, rfl, rfl, _, rfl, _, _, rfl, rfl, .inr ⟨by omega, by omega⟩, _, _, rfl, rfl, _, rfl, iteD (fun h1 => ?_) (fun h1 => ?_)⟩
            · refine ⟨_, rfl, _, _, rfl, rfl, _, _, rfl, rfl, _, rfl, iteD (fun h2 => ?_) (fun h2 => ?_)⟩
              · have hv9 : ∀ H9, Same H8 H9 → Is H9 (lfs ps) (.ref dr) := fun H9 s9 => hv.mono (so8.1.trans s9)
                have okm : (ps ≠ [] ∨ i = 0) → OkM ps room (0 + (i : Int), 0 + (i : Int) + 1 + (j : Int), 1 + (k : Int)) := fun z => ⟨by show 0 ≤ 0 + (i : Int); omega, by show 0 + (i : Int) < 0 + (i : Int) + 1 + (j : Int); omega, by show 0 + (i : Int) + 1 + (j : Int) ≤ _; omega, by show 1 ≤ 1 + (k : Int); omega, by show 1 + (k : Int) ≤ 4; omega, h1, h2, z.imp id (fun e => by show 0 + (i : Int) = 0; omega), by show 0 + (i : Int) < endF ps; omega, by show 0 + (i : Int) + 1 + (j : Int) ≤ endF ps + 3; omega⟩
                refine ⟨_, rfl, Nat.zero_le _, fun le H9 n9 s9 h9 => ⟨2, _, eq_nil (hv9 H9 s9) (is_l h9 iss_nil), by decide, _, rfl, ?_⟩⟩
                have so9 := so8.new s9
                obtain ⟨_, qs, vs, q1, q2, q3, q4, q5⟩ := id so9
                have vl : vs.length = qs.length := by rw [q2.length, List.length_map]
                by_cases hps : ps = []
                · rw [decide_eq_true hps]
                  refine iteF ⟨_, rfl, rfl, _, rfl, iteE (fun e0 => ?_) (fun e0 => ?_)⟩
                  · exact ⟨_, rfl, .inl ⟨rfl, _, SqL.of q1⟩, _, rfl, _, rfl, _, rfl, (by show 3 ≤ sizeLine; decide), fun t H10 nt s10 ht => ⟨so, vs, _, rfl, rfl, s10 _ _ q1, small1000 (by omega), ⟨_, rfl⟩, (so9.new s10).app (s10 _ _ q1) nso ht (okm (.inr (by omega)))⟩⟩
                  · exact ⟨⟨_, rfl⟩, so9.weak (by omega) (fun z => by omega)⟩
                · rw [decide_eq_false hps]
                  refine iteT ?_
                  exact ⟨_, rfl, .inl ⟨rfl, _, SqL.of q1⟩, _, rfl, _, rfl, _, rfl, (by show 3 ≤ sizeLine; decide), fun t H10 nt s10 ht => ⟨so, vs, _, rfl, rfl, s10 _ _ q1, small1000 (by omega), ⟨_, rfl⟩, (so9.new s10).app (s10 _ _ q1) nso ht (okm (.inl hps))⟩⟩
              · have e2 : (0 + ((0 : Nat) : Int) + 1 + ((1 : Nat) : Int) - (0 + ((0 : Nat) : Int))) * (1 + ((0 : Nat) : Int)) = 2 := by decide
                have first : ¬ (i = 0 ∧ j = 1 ∧ k = 0) := by
                  rintro ⟨rfl, rfl, rfl⟩
                  exact h2 (by rw [e2]; omega)
                exact ⟨⟨_, rfl⟩, so8.weak (by omega) (fun z => by omega)⟩
            · have first : ¬ (i = 0 ∧ j = 1 ∧ k = 0) := by
                rintro ⟨rfl, rfl, rfl⟩
                exact h1 (by decide)
              exact ⟨false, rfl, ⟨_, rfl⟩, so8.weak (by omega) (fun z => by omega)⟩
          · rintro σ H8 ⟨⟨v7, rfl⟩, so8⟩
            exact ⟨⟨_, _, rfl⟩, so8.weak (by omega) (by omega)⟩
        · rintro σ H7 ⟨⟨v6, v7, rfl⟩, so7⟩
          exact ⟨⟨_, _, _, rfl⟩, so7.weak (by omega) (by omega)⟩
      · rintro σ H6 ⟨⟨v5, v6, v7, rfl⟩, s6, qs, vs, q1, q2, q3, q4, q5⟩
        have qne := q5 n1
        have vl : vs.length = qs.length := by rw [q2.length, List.length_map]
        have qpos : 0 < qs.length := List.length_pos_iff.mpr qne
        refine ⟨_, rfl, _, rfl, _, rfl, so, _, rfl, .inl (SqL.of q1), b, _, far, st, rfl, s6 _ _ hb, hf, hst, by omega, by omega, fun z far' st' z0 z1 hf' hst' => ?_⟩
        obtain ⟨m, rfl⟩ := Int.eq_ofNat_of_zero_le z0
        have hm : m < qs.length := by omega
        obtain ⟨u, hu, hlu⟩ := q2.get (j := m) (x := lf qs[m]) (by rw [List.getElem?_map, List.getElem?_eq_getElem hm]; rfl)
        obtain ⟨t, rfl, ht⟩ := of_lf hlu
        have tb : t ≠ b := by rintro rfl; rw [show H6 t = _ from s6 _ _ hb] at ht; cases ht
        refine ⟨so, _, _, _, rfl, rfl, SqL.of (by rw [upd_ne sob]; exact q1), ix_D (j := m) rfl hu, kk qs[m] t far' st' _ ((But.of_same s6).trans But.upd) upd_same hf' hst' (by rw [upd_ne tb]; exact ht) (q3 _ (List.getElem_mem hm))⟩
    · rintro σ H R R' k ⟨v1, e1, xs, i, d, h1, e2, e3, h⟩
      exact ⟨v1, e1, xs, i, d, h1, e2, e3, fun u hu => k _ _ (h u hu)⟩
theorem ok__law_drawn : FnOk P w K mg base CX0 4 T.f__law_drawn T.d__law_drawn ["_law_bag_here", "_law_k"] (spDrawn K) := by
  refine T.F__law_drawn.ok sc__law_drawn (fun vs H Q E h => ?_) (fun cdv A outer s H vs Q E hr h => ?_)
  · obtain ⟨_, _, _, _, rfl, _⟩ := h
    rfl
  · obtain ⟨b, k0, far, st, rfl, hb, hf, hst, k1, k3, kk⟩ := h
    obtain ⟨k, rfl⟩ := Int.eq_ofNat_of_zero_le (show 0 ≤ k0 by omega)
    have facts : ∀ {ps : List Lf}, ps ∈ lev (k : Int) ps.length → ps.length ≤ 3 → _ := fun {ps} h h3 => lev_facts h3 (lev_ok (by omega) (by omega) h3 h)
    refine ⟨_, (pss_cons (ps_set (i := 2) sc__law_drawn.nd rfl (by first | exact Or.inl rfl | exact Or.inr rfl) (pe_lstN pa_nil))
      (pss_cons (ps_while PassesOwn.never (pt_cmpR op_lt (pe_call (ok__law_crossings T) (hr.mono (by decide)) (by rfl) T.m__law_crossings T.F__law_crossings.kp T.B__law_crossings .nil pass0 (pa_cons (pv 2) pa_nil)) (pv 1) (nomark _)) (pss_one (ps_expr (pe_bm PySem.F.plainAttrs_list PySem.F.slot_list_append PySem.F.type_list_append mt_append (pv 2) (pa_cons (pe_call (ok__law_one_more T) (hr.mono (by decide)) (by rfl) T.m__law_one_more T.F__law_one_more.kp T.B__law_one_more .nil pass0 (pa_cons (pv 0) (pa_cons (pv 2) (pa_cons (pe_op op_sub (pv 1) (pe_call (ok__law_crossings T) (hr.mono (by decide)) (by rfl) T.m__law_crossings T.F__law_crossings.kp T.B__law_crossings .nil pass0 (pa_cons (pv 2) pa_nil))) pa_nil)))) pa_nil)))))
      (pss_one (ps_ret (pe_callB call_sortO (by rfl) T.n_sorted boot_sorted (pa_cons (pv 2) pa_nil)))))), ?_⟩
    refine ⟨Nat.zero_le _, fun dr H1 n1 s1 h1 => ?_⟩
    have ndb : dr ≠ b := fun z => by rw [z, show H b = _ from hb] at n1; cases n1
    refine while_by (fun σ H2 => ∃ (ps : List Lf) (vs : List V) (far st : Int), σ = [some (.ref b), some (.int k), some (.ref dr)] ∧ But b H H2 ∧ H2 dr = some (.lst vs) ∧ Iss H2 (ps.map lf) vs ∧ Bag H2 b far st ∧ 0 ≤ far ∧ 0 ≤ st ∧ ps ∈ lev k ps.length ∧ ps.length ≤ 3)
      (fun _ H2 => match H2 dr with | some (.lst xs) => 4 - xs.length | _ => 0) ⟨[], [], far, st, rfl, But.of_same s1, h1, iss_nil, s1 _ _ hb, hf, hst, by show ([] : List Lf) ∈ [[]]; simp, by show 0 ≤ 3; decide⟩ ?_ ?_
    · rintro σ H2 ⟨ps, vs, far2, st2, rfl, but2, hdr, his, hb2, hf2, hst2, hlev, hl3⟩
      obtain ⟨_, c4, c3, c1, c2, c5⟩ := facts hlev hl3
      have vl : vs.length = ps.length := by rw [his.length, List.length_map]
      have hv2 : Is H2 (lfs ps) (.ref dr) := is_l hdr his
      refine ⟨_, rfl, .ref dr, ps, rfl, hv2, by omega, c1, fun H3 s3 => ⟨_, rfl, _, _, rfl, rfl, _, rfl, iteD (fun h => ?_) (fun h => ?_)⟩⟩
      · refine ⟨_, rfl, .inl ⟨rfl, _, SqL.of (s3 _ _ hdr)⟩, _, rfl, _, rfl, _, rfl, _, rfl, .ref dr, ps, rfl, hv2.mono s3, by omega, c1, fun H4 s4 => ?_⟩
        have s24 := s3.trans s4
        refine ⟨_, _, rfl, rfl, b, dr, ps, _, far2, st2, rfl, s24 _ _ hb2, hf2, hst2, ndb, hv2.mono s24, by omega, c1, c2, by omega, fun p t far5 st5 H5 but5 bag5 hf5 hst5 ht okm => ?_⟩
        have hdr5 : H5 dr = some (.lst vs) := but5 _ _ (s24 _ _ hdr) ndb
        have his5 : Iss H5 (ps.map lf) vs := by
          have := is_but (s24 _ _ hb2) but5 ndb (hv2.mono s24)
          obtain ⟨_, ws, e, hw, hi⟩ := of_l this
          cases e
          rw [hdr5] at hw
          cases hw
          exact hi
        obtain ⟨m1, m2, m3, m4, m5, m6, m7, m8, m9, m10⟩ := okm
        have okp : OkP p := ⟨m1, m2, by omega, m4, m5⟩
        have cr := cross_add ps p
        have ln : (ps ++ [p]).length = ps.length + 1 := by rw [List.length_append]; rfl
        refine ⟨dr, vs, _, rfl, rfl, hdr5, small1000 (by omega), ⟨ps ++ [p], vs ++ [.ref t], far5, st5, rfl, ?_, upd_same, ?_, ?_, hf5, hst5, ?_, by omega⟩, ?_⟩
        · exact fun c o e n => by
            have cd : c ≠ dr := by rintro rfl; rw [n1] at e; cases e
            rw [upd_ne cd]
            exact but5 _ _ (s24 _ _ (but2 _ _ e n)) n
        · exact iss_lf (TupS.upd hdr5) (by rw [List.map_append]; exact his5.append (iss_cons (is_lf ht) iss_nil))
        · unfold Bag; rw [upd_ne ndb.symm]; exact bag5
        · rw [ln]
          refine lev_add hlev h (more_in m1 m9 m2 m10 m4 m5 ?_)
          unfold okN
          rw [decide_eq_true m6, decide_eq_true m7]
          rcases m8 with z | z
          · rw [decide_eq_true z]; rfl
          · rw [decide_eq_true z, Bool.or_true]; rfl
        · show (match upd H5 dr (.lst (vs ++ [.ref t])) dr with | some (.lst xs) => 4 - xs.length | _ => 0) < (match H2 dr with | some (.lst xs) => 4 - xs.length | _ => 0)
          rw [upd_same, hdr]
          show 4 - (vs ++ [V.ref t]).length < 4 - vs.length
          rw [List.length_append]
          show 4 - (vs.length + 1) < 4 - vs.length
          omega
      · refine ⟨_, rfl, .ref dr, ps.map row3, 3, rfl, by rw [← lfs_rows]; exact hv2.mono s3, by decide, rows_len, by rw [List.length_map]; omega, fun yss q H4 pm hasc nq s4 hq => ?_⟩
        obtain ⟨t1, t2, t3⟩ := c5.resolve_left h
        have e := asc_eq (pm.trans (t2.symm.map row3)) rows_len hasc (asc_of t3)
        rw [e] at hq
        exact kk (srtF ps) q H4 (but2.trans ((But.of_same s3).trans (But.of_same s4))) (by rw [lfs_rows]; exact hq) t1
    · intro σ H Q1 Q2 k h
      obtain ⟨v1, e1, v2, qs, e2, h1, h2, h3, h⟩ := h
      refine ⟨v1, e1, v2, qs, e2, h1, h2, h3, fun H' s' => ?_⟩
      obtain ⟨v3, e3, i1, j1, e4, e5, b2, e6, h⟩ := h H' s'
      exact ⟨v3, e3, i1, j1, e4, e5, b2, e6, k _ _ h⟩
theorem ok_words_at : FnOk P w K mg base CX0 10 T.f_words_at T.d_words_at ["template", "place"] (spWords K) := by
  refine T.F_words_at.ok sc_words_at (fun vs H Q E h => ?_) (fun cdv A outer s H vs Q E hr h => ?_)
  · obtain ⟨_, _, _, rfl, _⟩ := h
    rfl
  · obtain ⟨v, ps, pl, rfl, hv, tp, p1, p20, kk⟩ := h
    refine ⟨_, (pss_cons (ps_if (pt_cmpR op_lt (pv 1) (pe_call (ok_least_place T) (hr.mono (by decide)) (by rfl) T.m_least_place T.F_least_place.kp T.B_least_place .nil pass0 (pa_cons (pv 0) pa_nil)) (nomark _)) (pss_one (ps_ret pe_int)) pss_nil)
      (pss_cons (ps_setcB (i := 2) sc_words_at.nd rfl (by first | exact Or.inl rfl | exact Or.inr rfl) (.inl rfl) (XN := ["template", "place", "marks", "j"]) (sc := defScope s_words_at) (N := ["i", "j", "w"]) (own := 3) (js := []) rfl (by decide +kernel) rfl rfl (pi_list (pv 0)) (fun _ _ _ _ => (pg_tupK (K := K) rfl rfl (pgs_cons (pg_name (i := 0) (show List.Nodup (["i", "j", "w"] : List Str) by decide +kernel) rfl (Or.inl rfl) (.inr rfl)) (pgs_cons (pg_name (i := 1) (show List.Nodup (["i", "j", "w"] : List Str) by decide +kernel) rfl (Or.inl rfl) (.inr rfl)) (pgs_cons (pg_name (i := 2) (show List.Nodup (["i", "j", "w"] : List Str) by decide +kernel) rfl (Or.inl rfl) (.inr rfl)) pgs_nil))))) ownG_tri (fun _ _ _ _ => pifs_nil) (fun _ _ _ _ => (pe_tupN (pa_cons (pe_op op_add (pv 0) pe_int) (pa_cons (pe_op op_add (pv 1) pe_int) (pa_cons (pv 2) pa_nil))))))
      (pss_cons (ps_for PassesOwn.never rfl (pi_range2 (by rfl) T.n_range (pa_cons pe_int (pa_cons (pe_op op_add (pe_call (ok_length T) (hr.mono (by decide)) (by rfl) T.m_length T.F_length.kp T.B_length .nil pass0 (pa_cons (pv 0) pa_nil)) pe_int) pa_nil))) (pg_name (i := 3) sc_words_at.nd rfl (by first | exact Or.inl rfl | exact Or.inr rfl)) (pss_one (ps_expr (pe_bm PySem.F.plainAttrs_list PySem.F.slot_list_extend PySem.F.type_list_extend mt_extend (pv 2) (pa_cons (pe_op op_repN (pe_lstN (pa_cons (pe_tupN (pa_cons (pv 3) (pa_cons (pe_op op_add (pv 3) pe_int) (pa_cons pe_int pa_nil)))) pa_nil)) (pe_op op_sub (pe_op op_sub (pe_op op_add (pv 1) (pv 3)) pe_int) (pe_call (ok_load T) (hr.mono (by decide)) (by rfl) T.m_load T.F_load.kp T.B_load .nil pass0 (pa_cons (pv 0) (pa_cons (pv 3) pa_nil))))) pa_nil)))))
      (pss_one (ps_ret (pe_call (ok_how_many_orders T) (hr.mono (by decide)) (by rfl) T.m_how_many_orders T.F_how_many_orders.kp T.B_how_many_orders .nil pass0 (pa_cons (pe_call (ok_length T) (hr.mono (by decide)) (by rfl) T.m_length T.F_length.kp T.B_length .nil pass0 (pa_cons (pv 0) pa_nil)) (pa_cons (pv 2) pa_nil)))))))), ?_⟩
    have l1 := tp.l1
    have l4 := tp.l4
    have l3 := tp.len
    obtain ⟨n, hn⟩ := Int.eq_ofNat_of_zero_le (show 0 ≤ lenF ps by omega)
    refine ⟨_, rfl, _, rfl, v, ps, rfl, hv, tp.okt, fun H1 s1 => ⟨_, _, rfl, rfl, _, rfl, iteD (fun h => ?_) (fun h => ?_)⟩⟩
    · have := kk H1 s1
      unfold wordsF at this
      rw [if_pos h] at this
      exact this
    have hw : wordsF ps pl = hmF n (mkA ps pl n) := by
      unfold wordsF
      rw [if_neg h, ← mkA_all, hn, Int.toNat_natCast]
    have hmk : MkW n (mkA ps pl n) := by
      have := tp.pl pl p1 p20
      unfold plB at this
      rw [Bool.and_eq_true, Bool.or_eq_true, decide_eq_true_eq, decide_eq_true_eq] at this
      rw [← mkA_all, hn, Int.toNat_natCast] at this
      rw [hn, Int.toNat_natCast] at h
      exact mkW_of (by omega) (fun z => sset_mem) (this.2.resolve_left h)
    rw [hw] at kk
    obtain ⟨da, dvs, rfl, hda, hdi⟩ := of_l hv
    have dlen : dvs.length = ps.length := by rw [hdi.length, List.length_map]
    refine ⟨_, rfl, da, rfl, ⟨_, SqL.of (s1 _ _ hda)⟩, fun acc na => ?_⟩
    have nacc : H acc = none := s1.free na
    refine comp_list (xs := dvs) (own := 3) (js := []) (fun j H4 => Same H1 H4 ∧ ∃ vs, H4 acc = some (.lst vs) ∧ Iss H4 (((ps.take j).map upM).map lf) vs) ⟨Same.new na, [], upd_same, iss_nil⟩ (fun j H4 _ h => SqL.of (h.1 _ _ (s1 _ _ hda))) ?_ ?_ mono_tri mono_yes ?_
    · rintro j x H4 hj ⟨s4, vs, hacc, hi⟩
      obtain ⟨dd, hdd, hy⟩ := hdi.of_get hj
      rw [List.getElem?_map] at hdd
      obtain ⟨p, hp', rfl⟩ := Option.map_eq_some_iff.mp hdd
      obtain ⟨t, rfl, ht⟩ := of_lf (hy.mono (s1.trans s4))
      have vl : vs.length ≤ 3 := by rw [hi.length, List.length_map, List.length_map, List.length_take]; omega
      refine ⟨t, _, rfl, SqT.of ht, rfl, _, _, rfl, _, _, rfl, _, _, rfl, rfl, yes_ ?_⟩
      refine ⟨_, rfl, _, _, rfl, rfl, _, rfl, _, _, rfl, rfl, _, rfl, (by show 3 ≤ sizeLine; decide), fun t2 H5 nt s5 ht2 => ⟨acc, vs, _, rfl, rfl, s5 _ _ hacc, small1000 (by omega), (s4.trans s5).put na, _, upd_same, ?_⟩⟩
      rw [List.take_add_one, hp', List.map_append]
      refine iss_lf (TupS.upd (s5 _ _ hacc)) ?_
      rw [List.map_append]
      exact (hi.mono s5).append (iss_cons (is_lf (p := upM p) ht2) iss_nil)
    · rintro H4 ⟨s4, vs, hacc, hi⟩
      rw [dlen, List.take_length] at hi
      have s14 := s1.trans s4
      refine ⟨_, rfl, .ref da, ps, rfl, hv.mono s14, tp.ne, by omega, fun H5 s5 => ?_⟩
      rw [hn]
      refine ⟨_, _, rfl, rfl, 1, _, rfl, ⟨by decide, by decide, by omega, by omega⟩, ?_⟩
      rw [show ((n : Int) + 1 - 1).toNat = n by omega]
      refine for_range (lo := 1) (n := n) (fun i σ H6 => (∃ v3, σ = [some (.ref da), some (.int pl), some (.ref acc), v3]) ∧ Same H H6 ∧ ∃ vs, H6 acc = some (.lst vs) ∧ Iss H6 ((mkA ps pl i).map lf) vs) ⟨⟨none, rfl⟩, s14.trans s5, vs, s5 _ _ hacc, by unfold mkA; simpa using hi.mono s5⟩ ?_ ?_
      · rintro i σ H6 hi' ⟨⟨v3, rfl⟩, s6, vs6, hacc6, hi6⟩
        have ml := mkA_len tp p20 (n := i) (by omega)
        have vl : vs6.length = (mkA ps pl i).length := by rw [hi6.length, List.length_map]
        have ld := tp.load i (by omega)
        have lg := least_ge (ps := ps) (n := (lenF ps).toNat) (i := i) (by rw [hn, Int.toNat_natCast]; exact hi')
        refine ⟨_, rfl, .inl ⟨rfl, _, SqL.of hacc6⟩, _, rfl, _, rfl, _, _, rfl, rfl, (by show 3 ≤ sizeLine; decide), fun t H7 nt s7 ht => ⟨(by show 1 ≤ sizeLine; decide), fun l H8 nl s8 hl => ?_⟩⟩
        refine ⟨_, rfl, _, rfl, _, _, rfl, rfl, _, _, rfl, rfl, _, rfl, _, rfl, .ref da, ps, _, rfl, hv.mono ((s6.trans s7).trans s8), by omega, fun H9 s9 => ⟨_, _, rfl, rfl, ?_⟩⟩
        refine ⟨lf (1 + (i : Int), 1 + (i : Int) + 1, 1), _, (is_l hl (iss_cons (is_lf (s8 _ _ ht)) iss_nil)).mono s9, rfl, by omega, by omega, Nat.le_of_lt (small1000 (by omega)), fun b H10 nb s10 hb => ?_⟩
        obtain ⟨_, zs, e, hz, hzi⟩ := of_l hb
        cases e
        have hacc10 : H10 acc = some (.lst vs6) := s10 _ _ (s9 _ _ (s8 _ _ (s7 _ _ hacc6)))
        have s610 := ((s7.trans s8).trans s9).trans s10
        have zl := hzi.length
        rw [List.length_replicate] at zl
        refine ⟨acc, b, vs6, zs, rfl, rfl, hacc10, hz, Nat.le_of_lt (small1000 (by omega)), ⟨_, rfl⟩, (s6.trans s610).put nacc, _, upd_same, ?_⟩
        rw [mkA_succ, List.map_append, List.map_replicate]
        refine (iss_lf (TupS.upd hacc10) (hi6.mono s610)).append ?_
        rw [← List.map_replicate]
        refine iss_lf (TupS.upd hacc10) ?_
        rw [List.map_replicate]
        exact hzi
      · rintro σ H6 ⟨⟨v3, rfl⟩, s6, vs6, hacc6, hi6⟩
        refine ⟨_, rfl, .ref da, ps, rfl, hv.mono s6, tp.ne, by omega, fun H7 s7 => ?_⟩
        refine ⟨_, rfl, n, .ref acc, mkA ps pl n, by rw [hn]; rfl, by omega, by omega, (is_l hacc6 hi6).mono s7, hmk, fun H8 s8 => kk H8 ((s6.trans s7).trans s8)⟩
    · rintro σ H R R' k ⟨v1, e1, i1, j1, e2, e3, v2, e4, i2, j2, e5, e6, v3, e7, h1, h⟩
      exact ⟨v1, e1, i1, j1, e2, e3, v2, e4, i2, j2, e5, e6, v3, e7, h1, fun p H2 n s h' => k _ _ (h p H2 n s h')⟩
theorem ok__law_short_ones : FnOk P w K mg base CX0 1 T.f__law_short_ones T.d__law_short_ones ["_law_template", "_law_place", "_law_end"] (spSho K) := by
  refine T.F__law_short_ones.ok sc__law_short_ones (fun vs H Q E h => ?_) (fun cdv A outer s H vs Q E hr h => ?_)
  · obtain ⟨_, _, _, _, rfl, _⟩ := h
    rfl
  · obtain ⟨v, ps, pl, n, rfl, hv, hl, hn, kk⟩ := h
    refine ⟨_, (pss_cons (ps_set (i := 3) sc__law_short_ones.nd rfl (by first | exact Or.inl rfl | exact Or.inr rfl) (pe_lstN pa_nil))
      (pss_cons (ps_for PassesOwn.never rfl (pi_range2 (by rfl) T.n_range (pa_cons pe_int (pa_cons (pe_op op_add (pv 2) pe_int) pa_nil))) (pg_name (i := 4) sc__law_short_ones.nd rfl (by first | exact Or.inl rfl | exact Or.inr rfl)) (pss_cons (ps_set (i := 5) sc__law_short_ones.nd rfl (by first | exact Or.inl rfl | exact Or.inr rfl) (pe_callB (call_sum rfl) (by rfl) T.n_sum boot_sum (pa_cons (pe_compB (XN := ["_law_template", "_law_place", "_law_end", "_law_found", "_law_j", "_law_passed"]) (sc := defScope s__law_short_ones) (N := ["_law_lift", "_law_j"]) (own := 1) (js := [4]) rfl (by decide +kernel) rfl rfl (pi_list (pv 0)) (fun _ _ _ _ => (pg_name (i := 0) (show List.Nodup (["_law_lift", "_law_j"] : List Str) by decide +kernel) rfl (Or.inl rfl) (.inr rfl))) (ownG_name (by decide)) (fun _ _ _ _ => (pifs_one (pt_chain op_lt op_le (pe_ix ix_tupN (pv 0) pe_int (fun _ _ => rfl)) (pv 1) (pe_ix ix_tupN (pv 0) pe_int (fun _ _ => rfl))))) (fun _ _ _ _ => (pe_ix ix_tupN (pv 0) pe_int (fun _ _ => rfl)))) pa_nil)))
      (pss_one (ps_expr (pe_bm PySem.F.plainAttrs_list PySem.F.slot_list_append PySem.F.type_list_append mt_append (pv 3) (pa_cons (pe_op op_sub (pe_op op_sub (pe_op op_add (pv 1) (pv 4)) pe_int) (pv 5)) pa_nil))))))
      (pss_one (ps_ret (pv 3))))), ?_⟩
    obtain ⟨da, dvs, rfl, hda, hdi⟩ := of_l hv
    have dlen : dvs.length = ps.length := by rw [hdi.length, List.length_map]
    refine ⟨Nat.zero_le _, fun fo H1 n1 s1 h1 => ?_⟩
    refine ⟨_, rfl, _, _, rfl, rfl, 1, _, rfl, ⟨by decide, by decide, by omega, by omega⟩, ?_⟩
    rw [show ((n : Int) + 1 - 1).toNat = n by omega]
    refine for_range (lo := 1) (n := n) (fun i σ H2 => (∃ v4 v5, σ = [some (.ref da), some (.int pl), some (.int n), some (.ref fo), v4, v5]) ∧ Same H H2 ∧ H2 fo = some (.lst ((shF ps pl i).map V.int))) ⟨⟨none, none, rfl⟩, s1, h1⟩ ?_ ?_
    · rintro q σ H2 hq ⟨⟨v4, v5, rfl⟩, s2, hfo⟩
      refine ⟨_, rfl, da, rfl, ⟨_, SqL.of (s2 _ _ hda)⟩, fun acc na => ?_⟩
      have foa : fo ≠ acc := by rintro rfl; rw [hfo] at na; cases na
      refine comp_list (xs := dvs) (own := 1) (js := [4]) (fun i H4 => Same H2 H4 ∧ H4 acc = some (.lst ((((ps.take i).filter (inF (1 + (q : Int)))).map (·.2.2)).map V.int))) ⟨Same.new na, upd_same⟩ (fun i H4 _ h => SqL.of (h.1 _ _ (s2 _ _ hda))) ?_ ?_ mono_name ?_ ?_
      · rintro i x H4 hj ⟨s4, hacc⟩
        obtain ⟨dd, hdd, hy⟩ := hdi.of_get hj
        rw [List.getElem?_map] at hdd
        obtain ⟨p, hp', rfl⟩ := Option.map_eq_some_iff.mp hdd
        have hlf : Is H4 (lf p) x := hy.mono (s2.trans s4)
        have stay : inF (1 + (q : Int)) p = false → H4 acc = some (.lst ((((ps.take (i + 1)).filter (inF (1 + (q : Int)))).map (·.2.2)).map V.int)) := fun e => by
          rw [hacc, List.take_add_one, hp', List.filter_append, List.map_append, List.map_append]
          simp [e]
        refine ⟨_, rfl, _, 0, _, hlf, rfl, rfl, fun u hu => ?_⟩
        rw [of_i hu]
        refine ⟨_, rfl, _, _, rfl, rfl, _, rfl, iteD (fun h1 => ?_) (fun h1 => ?_)⟩
        · refine ⟨_, rfl, _, 1, _, hlf, rfl, rfl, fun u hu => ?_⟩
          rw [of_i hu]
          refine ⟨_, _, rfl, rfl, _, rfl, iteD (fun h2 => ?_) (fun h2 => ?_)⟩
          · have e : inF (1 + (q : Int)) p = true := by unfold inF; rw [decide_eq_true h1, decide_eq_true h2]; rfl
            refine ⟨_, rfl, _, 2, _, hlf, rfl, rfl, fun u hu => ?_⟩
            rw [of_i hu]
            refine ⟨acc, _, _, rfl, rfl, hacc, small1000 ?_, s4.put na, ?_⟩
            · rw [List.length_map, List.length_map]
              have := List.length_filter_le (inF (1 + (q : Int))) (ps.take i)
              rw [List.length_take] at this
              omega
            · rw [upd_same, List.take_add_one, hp', List.filter_append, List.map_append, List.map_append]
              simp [e]
          · exact ⟨s4, stay (by unfold inF; rw [decide_eq_false h2, Bool.and_false])⟩
        · exact ⟨false, rfl, iteF ⟨s4, stay (by unfold inF; rw [decide_eq_false h1]; rfl)⟩⟩
      · rintro H4 ⟨s4, hacc⟩
        rw [dlen, List.take_length] at hacc
        refine ⟨acc, _, rfl, SqL.of hacc, ?_⟩
        have hfo4 : H4 fo = some (.lst ((shF ps pl q).map V.int)) := s4 _ _ hfo
        refine ⟨_, rfl, .inl ⟨rfl, _, SqL.of hfo4⟩, _, rfl, _, rfl, _, _, rfl, rfl, _, _, rfl, rfl, _, rfl, _, _, rfl, rfl, fo, _, _, rfl, rfl, hfo4, small1000 (by rw [List.length_map]; unfold shF; rw [List.length_map, List.length_range]; omega), ⟨_, _, rfl⟩, (s2.trans s4).put n1, ?_⟩
        rw [upd_same]
        unfold shF
        rw [List.range_succ, List.map_append, List.map_append]
        rfl
      · rintro σ H R R' k h
        obtain ⟨v1, e1, xs, i, d, h1, e2, e3, h⟩ := h
        refine ⟨v1, e1, xs, i, d, h1, e2, e3, fun u hu => ?_⟩
        obtain ⟨v2, e4, i1, j1, e5, e6, b, e7, h⟩ := h u hu
        refine ⟨v2, e4, i1, j1, e5, e6, b, e7, ?_⟩
        cases b with
        | true =>
          obtain ⟨v1, e1, xs, i, d, h1, e2, e3, h⟩ := h
          refine ⟨v1, e1, xs, i, d, h1, e2, e3, fun u hu => ?_⟩
          obtain ⟨i1, j1, e5, e6, b, e7, h⟩ := h u hu
          exact ⟨i1, j1, e5, e6, b, e7, k _ _ h⟩
        | false =>
          obtain ⟨b, e7, h⟩ := h
          exact ⟨b, e7, k _ _ h⟩
      · rintro σ H R R' k ⟨v1, e1, xs, i, d, h1, e2, e3, h⟩
        exact ⟨v1, e1, xs, i, d, h1, e2, e3, fun u hu => k _ _ (h u hu)⟩
    · rintro σ H2 ⟨⟨v4, v5, rfl⟩, s2, hfo⟩
      exact ⟨_, rfl, kk fo H2 s2 hfo⟩
theorem pow64 {m : Nat} (h : m ≤ 3) : 4 ^ m ≤ 64 := by
  have : ∀ m, m ≤ 3 → 4 ^ m ≤ 64 := by decide
  exact this m h
theorem is_rw {H : Hp} {r : List Int × Int} {t l : Addr} (h : H t = some (.tup [.ref l, .int r.2])) (k : H l = some (.lst (r.1.map V.int))) : Is H (rwD r) (.ref t) := is_t h (iss_cons (is_l k (ints_iss r.1)) (iss_cons is_i iss_nil))
theorem ok__law_put_in : FnOk P w K mg base CX0 1 T.f__law_put_in T.d__law_put_in ["_law_sizes", "_law_lift"] (spPut K) := by
  refine T.F__law_put_in.ok sc__law_put_in (fun vs H Q E h => ?_) (fun cdv A outer s H vs Q E hr h => ?_)
  · obtain ⟨_, _, _, _, _, _, rfl, _⟩ := h
    rfl
  · obtain ⟨v, u, rows, p, L, m, rfl, hv, hu, hR, m3, L4, p0, p1, pL, kk⟩ := h
    refine ⟨_, (pss_cons (ps_set (i := 2) sc__law_put_in.nd rfl (by first | exact Or.inl rfl | exact Or.inr rfl) (pe_lstN pa_nil))
      (pss_cons (ps_for PassesOwn.never rfl (pi_range2 (by rfl) T.n_range (pa_cons (pe_ix ix_tupN (pv 1) pe_int (fun _ _ => rfl)) (pa_cons (pe_ix ix_tupN (pv 1) pe_int (fun _ _ => rfl)) pa_nil))) (pg_name (i := 3) sc__law_put_in.nd rfl (by first | exact Or.inl rfl | exact Or.inr rfl)) (pss_one (ps_for PassesOwn.never rfl (pi_list (pv 0)) (pg_name (i := 4) sc__law_put_in.nd rfl (by first | exact Or.inl rfl | exact Or.inr rfl)) (pss_cons (ps_set (i := 5) sc__law_put_in.nd rfl (by first | exact Or.inl rfl | exact Or.inr rfl) (pe_callTy call_list_ofN (by rfl) T.n_list boot_list (pa_cons (pe_ix ix_tupN (pv 4) pe_int (fun _ _ => rfl)) pa_nil)))
      (pss_cons (ps_asg (pe_op op_add (pe_ix ix_list (pv 5) (pv 3) (fun _ _ => rfl)) pe_int) (pg_sub (pv 5) (pv 3) set_list))
      (pss_one (ps_expr (pe_bm PySem.F.plainAttrs_list PySem.F.slot_list_append PySem.F.type_list_append mt_append (pv 2) (pa_cons (pe_tupN (pa_cons (pv 5) (pa_cons (pe_op op_mul (pe_ix ix_tupN (pv 4) pe_int (fun _ _ => rfl)) (pe_ix ix_list (pv 5) (pv 3) (fun _ _ => rfl))) pa_nil))) pa_nil)))))))))
      (pss_one (ps_ret (pv 2))))), ?_⟩
    obtain ⟨va, rvs, rfl, hva, hvi⟩ := of_l hv
    have rlen : rvs.length = rows.length := by rw [hvi.length, List.length_map]
    have r64 : rows.length ≤ 64 := Nat.le_trans hR.1 (pow64 m3)
    refine ⟨Nat.zero_le _, fun fo H1 n1 s1 h1 => ?_⟩
    refine ⟨_, rfl, _, 0, _, hu.mono s1, rfl, rfl, fun u1 hu1 => ?_⟩
    rw [of_i hu1]
    refine ⟨_, rfl, _, 1, _, hu.mono s1, rfl, rfl, fun u2 hu2 => ?_⟩
    rw [of_i hu2]
    refine ⟨_, _, rfl, ⟨by omega, by omega, by omega, by omega⟩, ?_⟩
    have kk : ∀ l H', Same H H' → Is H' (.l ((((List.range (p.2.1 - p.1).toNat).flatMap fun g : Nat => rows.map fun r => (wmF r.1 (p.1.toNat + g) 1, r.2 * (wmF r.1 (p.1.toNat + g) 1).getD (p.1.toNat + g) 0))).map rwD)) (.ref l) → Q (.ref l) H' := kk
    refine for_range (lo := p.1) (n := (p.2.1 - p.1).toNat) (fun g σ H2 => (∃ v3 v4 v5, σ = [some (.ref va), some u, some (.ref fo), v3, v4, v5]) ∧ Same H H2 ∧ Grow H2 fo (((List.range g).flatMap fun g : Nat => rows.map fun r => (wmF r.1 (p.1.toNat + g) 1, r.2 * (wmF r.1 (p.1.toNat + g) 1).getD (p.1.toNat + g) 0)).map rwD)) ⟨⟨none, none, none, rfl⟩, s1, [], h1, iss_nil⟩ ?_ ?_
    · rintro g σ H2 hg ⟨⟨v3, v4, v5, rfl⟩, s2, G2⟩
      have pl := pi_len (rows := rows) (p := p) (m := m) hR.1 (by omega) g (by omega)
      rw [flat_succ]
      generalize ((List.range g).flatMap fun g : Nat => rows.map fun r => (wmF r.1 (p.1.toNat + g) 1, r.2 * (wmF r.1 (p.1.toNat + g) 1).getD (p.1.toNat + g) 0)) = pr at G2 pl ⊢
      obtain ⟨q, hq⟩ : ∃ q : Nat, p.1.toNat + g = q := ⟨_, rfl⟩
      have eq : p.1 + (g : Int) = (q : Int) := by omega
      have hqL : q < L := by omega
      rw [hq, eq]
      have prl : pr.length ≤ 256 := by
        rw [pl]
        have : g ≤ 4 := by omega
        exact Nat.le_trans (Nat.mul_le_mul this r64) (by decide)
      refine ⟨_, rfl, va, rfl, ⟨_, SqL.of (s2 _ _ hva)⟩, for_list (xs := rvs) (fun j σ H3 => (∃ v4 v5, σ = [some (.ref va), some u, some (.ref fo), some (.int q), v4, v5]) ∧ Same H H3 ∧ Grow H3 fo ((pr ++ (rows.take j).map fun r => (wmF r.1 q 1, r.2 * (wmF r.1 q 1).getD q 0)).map rwD)) ⟨⟨_, _, rfl⟩, s2, by simpa using G2⟩ (fun j σ H3 _ h => SqL.of (h.2.1 _ _ hva)) ?_ ?_⟩
      · rintro j y σ H3 hj ⟨⟨v4, v5, rfl⟩, s3, vs3, hfo3, hi3⟩
        obtain ⟨dd, hdd, hy⟩ := hvi.of_get hj
        rw [List.getElem?_map] at hdd
        obtain ⟨r, hr', rfl⟩ := Option.map_eq_some_iff.mp hdd
        obtain ⟨rl, rb⟩ := hR.2 r (List.mem_of_getElem? hr')
        have hy3 := hy.mono s3
        have vl := hi3.length
        rw [List.length_map, List.length_append, List.length_map, List.length_take] at vl
        refine ⟨_, rfl, _, 0, .l (r.1.map .i), hy3, rfl, rfl, fun u1 hu1 => ⟨u1, r.1.map .i, rfl, .inl hu1, fun la H4 nla s4 hla => ?_⟩⟩
        obtain ⟨_, ws, e, hl4, hw⟩ := of_l hla
        cases e
        rw [iss_ints hw] at hl4
        clear hw
        refine ⟨_, rfl, _, rfl, la, _, _, _, rfl, rfl, SqL.of hl4, at_int (by omega), _, _, rfl, rfl, _, rfl, _, rfl, la, _, _, q, rfl, rfl, hl4, ixN_nat (by rw [List.length_map]; omega), ?_⟩
        have ew : (r.1.map V.int).set q (.int (r.1.getD q 0 + 1)) = (wmF r.1 q 1).map V.int := by unfold wmF; rw [List.map_set]
        rw [ew]
        have s5 : Same H3 (upd H4 la (.lst ((wmF r.1 q 1).map V.int))) := s4.put nla
        have hl5 : upd H4 la (.lst ((wmF r.1 q 1).map V.int)) la = some (.lst ((wmF r.1 q 1).map V.int)) := upd_same
        generalize upd H4 la (.lst ((wmF r.1 q 1).map V.int)) = H5 at s5 hl5 ⊢
        have ge : (wmF r.1 q 1).getD q 0 = r.1.getD q 0 + 1 := by rw [wm_at (by omega), if_pos rfl]
        have rq := rb q
        have wl : (wmF r.1 q 1).length = L := by rw [wm_len, rl]
        have hfo5 := s5 _ _ hfo3
        have lafo : la ≠ fo := by rintro rfl; rw [hfo3] at nla; cases nla
        refine ⟨_, rfl, .inl ⟨rfl, _, SqL.of hfo5⟩, _, rfl, _, rfl, _, 1, .i r.2, hy3.mono s5, rfl, rfl, fun u2 hu2 => ?_⟩
        rw [of_i hu2]
        refine ⟨_, rfl, _, rfl, la, _, _, _, rfl, rfl, SqL.of hl5, at_int (by omega), _, _, rfl, rfl, .inr ⟨by rw [ge]; omega, by rw [ge]; omega⟩, (by show 2 ≤ sizeLine; decide), fun t2 H6 nt2 s6 ht2 => ?_⟩
        have hfo6 := s6 _ _ hfo5
        have tfo : t2 ≠ fo := by rintro rfl; rw [hfo5] at nt2; cases nt2
        refine ⟨fo, vs3, _, rfl, rfl, hfo6, small1000 (by omega), ⟨_, _, rfl⟩, ((s3.trans s5).trans s6).put n1, ?_⟩
        have ez : pr ++ (rows.take (j + 1)).map (fun r => (wmF r.1 q 1, r.2 * (wmF r.1 q 1).getD q 0)) = (pr ++ (rows.take j).map fun r => (wmF r.1 q 1, r.2 * (wmF r.1 q 1).getD q 0)) ++ [(wmF r.1 q 1, r.2 * (wmF r.1 q 1).getD q 0)] := by
          rw [List.take_add_one, hr', List.map_append, List.append_assoc]
          rfl
        rw [ez, List.map_append (l₁ := pr ++ _)]
        refine grow_add (hi3.mono (hid_mono (s5.trans s6))) (is_rw (l := la) ?_ ?_)
        · rw [hid_at tfo]; exact ht2
        · rw [hid_at lafo]; exact s6 _ _ hl5
      · rintro σ H3 ⟨⟨v4, v5, rfl⟩, s3, G3⟩
        rw [rlen, List.take_length] at G3
        exact ⟨⟨_, _, _, rfl⟩, s3, G3⟩
    · rintro σ H2 ⟨⟨v3, v4, v5, rfl⟩, s2, G2⟩
      exact ⟨_, rfl, kk fo H2 s2 G2.is⟩
theorem ok__law_due : FnOk P w K mg base CX0 2 T.f__law_due T.d__law_due ["_law_template", "_law_place"] (spDue K) := by
  refine T.F__law_due.ok sc__law_due (fun vs H Q E h => ?_) (fun cdv A outer s H vs Q E hr h => ?_)
  · obtain ⟨_, _, _, rfl, _⟩ := h
    rfl
  · obtain ⟨v, ps, pl, rfl, hv, tp, p1, p20, kk⟩ := h
    refine ⟨_, (pss_cons (ps_set (i := 2) sc__law_due.nd rfl (by first | exact Or.inl rfl | exact Or.inr rfl) (pe_callB (call_max1 rfl) (by rfl) T.n_max boot_max (pa_cons (pe_compB (XN := ["_law_template", "_law_place", "_law_end", "_law_sizes", "_law_rows", "_law_alike", "_law_k"]) (sc := defScope s__law_due) (N := ["_law_lift"]) (own := 1) (js := []) rfl (by decide +kernel) rfl rfl (pi_list (pv 0)) (fun _ _ _ _ => (pg_name (i := 0) (show List.Nodup (["_law_lift"] : List Str) by decide +kernel) rfl (Or.inl rfl) (.inr rfl))) (ownG_name (by decide)) (fun _ _ _ _ => pifs_nil) (fun _ _ _ _ => (pe_ix ix_tupN (pv 0) pe_int (fun _ _ => rfl)))) pa_nil)))
      (pss_cons (ps_set (i := 3) sc__law_due.nd rfl (by first | exact Or.inl rfl | exact Or.inr rfl) (pe_call (ok__law_short_ones T) (hr.mono (by decide)) (by rfl) T.m__law_short_ones T.F__law_short_ones.kp T.B__law_short_ones .nil pass0 (pa_cons (pv 0) (pa_cons (pv 1) (pa_cons (pv 2) pa_nil)))))
      (pss_cons (ps_if (pt_cmpR op_lt (pe_callB (call_min1 rfl) (by rfl) T.n_min boot_min (pa_cons (pv 3) pa_nil)) pe_int (nomark _)) (pss_one (ps_ret pe_int)) pss_nil)
      (pss_cons (ps_set (i := 4) sc__law_due.nd rfl (by first | exact Or.inl rfl | exact Or.inr rfl) (pe_lstN (pa_cons (pe_tupN (pa_cons (pv 3) (pa_cons pe_int pa_nil))) pa_nil)))
      (pss_cons (ps_set (i := 5) sc__law_due.nd rfl (by first | exact Or.inl rfl | exact Or.inr rfl) pe_int)
      (pss_cons (ps_for PassesOwn.never rfl (pi_range1 (by rfl) T.n_range (pa_cons (pe_callB call_lenN (by rfl) T.n_len boot_len (pa_cons (pv 0) pa_nil)) pa_nil)) (pg_name (i := 6) sc__law_due.nd rfl (by first | exact Or.inl rfl | exact Or.inr rfl)) (pss_cons (ps_set (i := 4) sc__law_due.nd rfl (by first | exact Or.inl rfl | exact Or.inr rfl) (pe_call (ok__law_put_in T) (hr.mono (by decide)) (by rfl) T.m__law_put_in T.F__law_put_in.kp T.B__law_put_in .nil pass0 (pa_cons (pv 4) (pa_cons (pe_ix ix_listN (pv 0) (pv 6) (fun _ _ => rfl)) pa_nil))))
      (pss_one (ps_set (i := 5) sc__law_due.nd rfl (by first | exact Or.inl rfl | exact Or.inr rfl) (pe_op op_mul (pv 5) (pe_bm PySem.F.plainAttrs_list PySem.F.slot_list_count PySem.F.type_list_count (mt_countD hr) (pe_slice sl_list (pv 0) po_none (po_some (pe_op op_add (pv 6) pe_int))) (pa_cons (pe_ix ix_listN (pv 0) (pv 6) (fun _ _ => rfl)) pa_nil)))))))
      (pss_one (ps_ret (pe_op op_fdiv (pe_callB (call_sum rfl) (by rfl) T.n_sum boot_sum (pa_cons (pe_compB (XN := ["_law_template", "_law_place", "_law_end", "_law_sizes", "_law_rows", "_law_alike", "_law_k"]) (sc := defScope s__law_due) (N := ["_law_row"]) (own := 1) (js := []) rfl (by decide +kernel) rfl rfl (pi_list (pv 4)) (fun _ _ _ _ => (pg_name (i := 0) (show List.Nodup (["_law_row"] : List Str) by decide +kernel) rfl (Or.inl rfl) (.inr rfl))) (ownG_name (by decide)) (fun _ _ _ _ => pifs_nil) (fun _ _ _ _ => (pe_ix ix_tupN (pv 0) pe_int (fun _ _ => rfl)))) pa_nil)) (pv 5)))))))))), ?_⟩
    have l1 := tp.l1
    have l4 := tp.l4
    have l3 := tp.len
    obtain ⟨n, hn⟩ := Int.eq_ofNat_of_zero_le (show 0 ≤ lenF ps by omega)
    unfold dueF at kk
    rw [hn, Int.toNat_natCast] at kk
    obtain ⟨da, dvs, rfl, hda, hdi⟩ := of_l hv
    have dlen : dvs.length = ps.length := by rw [hdi.length, List.length_map]
    refine ⟨_, rfl, da, rfl, ⟨_, SqL.of hda⟩, fun acc na => ?_⟩
    refine comp_list (xs := dvs) (own := 1) (js := []) (fun j H4 => Same H H4 ∧ H4 acc = some (.lst (((ps.take j).map (·.2.1)).map V.int))) ⟨Same.new na, upd_same⟩ (fun j H4 _ h => SqL.of (h.1 _ _ hda)) ?_ ?_ mono_name mono_yes ?_
    · rintro j x H4 hj ⟨s4, hacc⟩
      obtain ⟨dd, hdd, hy⟩ := hdi.of_get hj
      rw [List.getElem?_map] at hdd
      obtain ⟨p, hp', rfl⟩ := Option.map_eq_some_iff.mp hdd
      refine yesN ?_
      refine ⟨_, rfl, _, 1, _, hy.mono s4, rfl, rfl, fun u hu => ?_⟩
      rw [of_i hu]
      refine ⟨acc, _, _, rfl, rfl, hacc, small1000 ?_, s4.put na, ?_⟩
      · rw [List.length_map, List.length_map, List.length_take]; omega
      · rw [upd_same, List.take_add_one, hp', List.map_append, List.map_append]; rfl
    · rintro H4 ⟨s4, hacc⟩
      rw [dlen, List.take_length] at hacc
      refine ⟨acc, _, rfl, SqL.of hacc, by rw [List.length_map]; exact List.length_pos_iff.mpr tp.ne, ?_⟩
      rw [show maxL (ps.map (·.2.1)) = (n : Int) from hn]
      refine ⟨_, rfl, _, rfl, _, rfl, .ref da, ps, pl, n, rfl, hv.mono s4, by omega, by omega, fun sz H5 s5 hsz => ?_⟩
      have s05 := s4.trans s5
      have shl : (shF ps pl n).length = n := by unfold shF; rw [List.length_map, List.length_range]
      refine ⟨_, rfl, sz, _, rfl, SqL.of hsz, by rw [shl]; omega, _, _, rfl, rfl, _, rfl, iteD (fun h => ?_) (fun h => ?_)⟩
      · rw [if_pos h] at kk
        exact kk H5 s05
      rw [if_neg h] at kk
      refine ⟨_, rfl, (by show 2 ≤ sizeLine; decide), fun t H6 nt s6 ht => ⟨(by show 1 ≤ sizeLine; decide), fun rl H7 nr s7 hrl => ?_⟩⟩
      have s07 := (s05.trans s6).trans s7
      have rb0 : RowsB n 0 [(shF ps pl n, 1)] := by
        refine ⟨by simp, fun r hr => ?_⟩
        rw [List.mem_singleton.mp hr]
        refine ⟨shl, fun i => ?_⟩
        by_cases hi : i < n
        · have e : (shF ps pl n).getD i 0 = pl + (1 + (i : Int)) - 1 - loadF ps (1 + (i : Int)) := by
            unfold shF
            rw [List.getD_eq_getElem?_getD, List.getElem?_map, List.getElem?_range hi]
            rfl
          have := tp.load i (by omega)
          have mn := minL_le (ns := shF ps pl n) (i := i) (by rw [shl]; exact hi)
          rw [e] at mn ⊢
          omega
        · rw [List.getD_eq_getElem?_getD, List.getElem?_eq_none (by rw [shl]; omega)]
          simp
      refine ⟨_, rfl, .ref da, _, rfl, .inl (hv.mono s07), ?_⟩
      rw [List.length_map]
      refine ⟨_, rfl, by omega, by omega, for_range (lo := 0) (n := (ps.length : Int).toNat) (fun i σ H8 => ∃ ra, (∃ v6, σ = [some (.ref da), some (.int pl), some (.int n), some (.ref sz), some (.ref ra), some (.int ((List.range i).foldl (fun a k => a * (((ps.take (k + 1)).count (ps.getD k (0, 0, 0)) : Nat) : Int)) 1)), v6]) ∧ Same H H8 ∧ Is H8 (.l (((ps.take i).foldl piF [(shF ps pl n, 1)]).map rwD)) (.ref ra) ∧ RowsB n i ((ps.take i).foldl piF [(shF ps pl n, 1)])) ⟨rl, ⟨none, rfl⟩, s07, is_l hrl (iss_cons (is_rw (r := (shF ps pl n, 1)) (s7 _ _ ht) (s7 _ _ (s6 _ _ hsz))) iss_nil), rb0⟩ ?_ ?_⟩
      · rintro i σ H8 hi ⟨ra, ⟨v6, rfl⟩, s8, hra, rbi⟩
        have hil : i < ps.length := by omega
        have hp' : ps[i]? = some ps[i] := List.getElem?_eq_getElem hil
        obtain ⟨q0, q1, q2, q3, q4⟩ := tp.ok ps[i] (List.getElem_mem hil)
        have qn : ps[i].2.1 ≤ (n : Int) := by rw [← hn]; exact maxL_ge (List.mem_map_of_mem (List.getElem_mem hil))
        have e0 : (0 : Int) + (i : Int) = (i : Int) := by omega
        rw [e0]
        have hat : atI (ps.map lf) (i : Int) = some (lf ps[i]) := ix_D (j := i) rfl (by rw [List.getElem?_map, hp']; rfl)
        refine ⟨_, rfl, _, rfl, _, rfl, _, _, lf ps[i], hv.mono s8, rfl, hat, fun u hu => ?_⟩
        refine ⟨.ref ra, u, _, ps[i], n, i, rfl, hra, hu, rbi, by omega, by omega, q0, q1, qn, fun l9 H9 s9 hl9 => ?_⟩
        have s89 := s8.trans s9
        refine ⟨_, rfl, _, rfl, _, rfl, _, _, rfl, rfl, _, rfl, da, dvs, rfl, SqL.of (s89 _ _ hda), fun c nc => ?_⟩
        have e1 : ((i : Int) + 1) = ((i + 1 : Nat) : Int) := by omega
        rw [e1, cut_take]
        have s10 : Same H9 (upd H9 c (.lst (dvs.take (i + 1)))) := Same.new nc
        have hc10 : upd H9 c (.lst (dvs.take (i + 1))) c = some (.lst (dvs.take (i + 1))) := upd_same
        generalize upd H9 c (.lst (dvs.take (i + 1))) = H10 at s10 hc10 ⊢
        have s010 := s89.trans s10
        refine ⟨.inl ⟨rfl, _, SqL.of hc10⟩, _, rfl, _, rfl, _, _, lf ps[i], hv.mono s010, rfl, hat, fun u2 hu2 => ?_⟩
        have hit : Iss H10 ((ps.take (i + 1)).map lf) (dvs.take (i + 1)) := by rw [List.map_take]; exact (hdi.mono s010).take _
        refine ⟨c, _, u2, 1, _, rfl, rfl, SqL.of hc10, told2_m hit hu2, ?_⟩
        have lt : (dvs.take (i + 1)).length = (ps.take (i + 1)).length := by rw [hit.length, List.length_map]
        rw [lt, count_at]
        have cl : (ps.take (i + 1)).count ps[i] ≤ 3 := by
          have := List.count_le_length (a := ps[i]) (l := ps.take (i + 1))
          rw [List.length_take] at this
          omega
        refine ⟨_, _, rfl, rfl, .inr ⟨by omega, by omega⟩, l9, ⟨some (.int (i : Int)), ?_⟩, s010, ?_, ?_⟩
        · rw [List.range_succ, List.foldl_append]
          simp only [List.foldl_cons, List.foldl_nil]
          rw [show ps.getD i (0, 0, 0) = ps[i] by rw [List.getD_eq_getElem?_getD, hp']; rfl]
          rfl
        · rw [List.take_add_one, hp', List.foldl_append]
          exact hl9.mono s10
        · rw [List.take_add_one, hp', List.foldl_append]
          exact pi_ok rbi q0 qn (by omega)
      · rintro σ H8 ⟨ra, ⟨v6, rfl⟩, s8, hra, rbi⟩
        rw [Int.toNat_natCast, List.take_length] at hra rbi
        rw [Int.toNat_natCast]
        have ea : (List.range ps.length).foldl (fun a k => a * (((ps.take (k + 1)).count (ps.getD k (0, 0, 0)) : Nat) : Int)) 1 = alF ps := rfl
        rw [ea]
        obtain ⟨_, rvs, e, hra8, hri⟩ := of_l hra
        cases e
        have r64 : (ps.foldl piF [(shF ps pl n, 1)]).length ≤ 64 := Nat.le_trans rbi.1 (pow64 l3)
        generalize ps.foldl piF [(shF ps pl n, 1)] = rows at hra hri rbi r64 kk
        have rlen : rvs.length = rows.length := by rw [hri.length, List.length_map]
        refine ⟨_, rfl, ra, rfl, ⟨_, SqL.of hra8⟩, fun ac nac => ?_⟩
        refine comp_list (xs := rvs) (own := 1) (js := []) (fun j H9 => Same H8 H9 ∧ H9 ac = some (.lst (((rows.take j).map (·.2)).map V.int))) ⟨Same.new nac, upd_same⟩ (fun j H9 _ h => SqL.of (h.1 _ _ hra8)) ?_ ?_ mono_name mono_yes ?_
        · rintro j x H9 hj ⟨s9, hacc⟩
          obtain ⟨dd, hdd, hy⟩ := hri.of_get hj
          rw [List.getElem?_map] at hdd
          obtain ⟨r, hr', rfl⟩ := Option.map_eq_some_iff.mp hdd
          refine yesN ?_
          refine ⟨_, rfl, _, 1, .i r.2, hy.mono s9, rfl, rfl, fun u hu => ?_⟩
          rw [of_i hu]
          refine ⟨ac, _, _, rfl, rfl, hacc, small1000 ?_, s9.put nac, ?_⟩
          · rw [List.length_map, List.length_map, List.length_take]; omega
          · rw [upd_same, List.take_add_one, hr', List.map_append, List.map_append]; rfl
        · rintro H9 ⟨s9, hacc⟩
          rw [rlen, List.take_length] at hacc
          have a1 := tp.a1
          have a2 := tp.a2
          exact ⟨ac, _, rfl, SqL.of hacc, _, rfl, _, _, rfl, rfl, ⟨by omega, by omega⟩, kk H9 (s8.trans s9)⟩
        · rintro σ H R R' k ⟨v1, e1, xs, i, d, h1, e2, e3, h⟩
          exact ⟨v1, e1, xs, i, d, h1, e2, e3, fun u hu => k _ _ (h u hu)⟩
    · rintro σ H R R' k ⟨v1, e1, xs, i, d, h1, e2, e3, h⟩
      exact ⟨v1, e1, xs, i, d, h1, e2, e3, fun u hu => k _ _ (h u hu)⟩
theorem ok_law : FnOk P w K mg base CX0 11 T.f_law T.d_law ["_law_script"] (sp_law K) := by
  refine T.F_law.ok sc_law (fun vs H Q E h => ?_) (fun cdv A outer s H vs Q E hr h => ?_)
  · obtain ⟨_, _, rfl, _⟩ := h
    rfl
  · obtain ⟨a, ns, rfl, hS, hl, kk⟩ := h
    refine ⟨_, (pss_cons (ps_set (i := 1) sc_law.nd rfl (by first | exact Or.inl rfl | exact Or.inr rfl) (pe_call (ok__law_bag T) (hr.mono (by decide)) (by rfl) T.m__law_bag T.F__law_bag.kp T.B__law_bag .nil pass0 (pa_cons (pe_call (ok__law_cell_at T) (hr.mono (by decide)) (by rfl) T.m__law_cell_at T.F__law_cell_at.kp T.B__law_cell_at .nil pass0 (pa_cons (pv 0) (pa_cons pe_int pa_nil))) (pa_cons pe_int pa_nil))))
      (pss_cons (ps_set (i := 2) sc_law.nd rfl (by first | exact Or.inl rfl | exact Or.inr rfl) (pe_call (ok__law_drawn T) (hr.mono (by decide)) (by rfl) T.m__law_drawn T.F__law_drawn.kp T.B__law_drawn .nil pass0 (pa_cons (pe_call (ok__law_bag T) (hr.mono (by decide)) (by rfl) T.m__law_bag T.F__law_bag.kp T.B__law_bag .nil pass0 (pa_cons (pe_call (ok__law_cell_at T) (hr.mono (by decide)) (by rfl) T.m__law_cell_at T.F__law_cell_at.kp T.B__law_cell_at .nil pass0 (pa_cons (pv 0) (pa_cons pe_int pa_nil))) (pa_cons pe_int pa_nil))) (pa_cons (pe_op op_add pe_int (pe_call (ok__law_digit T) (hr.mono (by decide)) (by rfl) T.m__law_digit T.F__law_digit.kp T.B__law_digit .nil pass0 (pa_cons (pv 1) (pa_cons pe_int pa_nil)))) pa_nil))))
      (pss_cons (ps_set (i := 3) sc_law.nd rfl (by first | exact Or.inl rfl | exact Or.inr rfl) (pe_op op_add pe_int (pe_call (ok__law_digit T) (hr.mono (by decide)) (by rfl) T.m__law_digit T.F__law_digit.kp T.B__law_digit .nil pass0 (pa_cons (pv 1) (pa_cons (pe_ix ix_list (pe_lstN (pa_cons pe_int (pa_cons pe_int pa_nil))) (pe_op op_fdiv (pe_call (ok__law_digit T) (hr.mono (by decide)) (by rfl) T.m__law_digit T.F__law_digit.kp T.B__law_digit .nil pass0 (pa_cons (pv 1) (pa_cons pe_int pa_nil))) pe_int) (fun _ _ => rfl)) pa_nil)))))
      (pss_cons (ps_set (i := 4) sc_law.nd rfl (by first | exact Or.inl rfl | exact Or.inr rfl) (pe_callTy call_list_ofN (by rfl) T.n_list boot_list (pa_cons (pv 2) pa_nil)))
      (pss_cons (ps_set (i := 5) sc_law.nd rfl (by first | exact Or.inl rfl | exact Or.inr rfl) (pe_call (ok_words_at T) (hr.mono (by decide)) (by rfl) T.m_words_at T.F_words_at.kp T.B_words_at .nil pass0 (pa_cons (pv 4) (pa_cons (pv 3) pa_nil))))
      (pss_cons (ps_if (pw_or (pt_not (pt_val (pe_callB call_isi (by rfl) T.n_isinstance boot_isinstance (pa_cons (pv 5) (pa_cons (pe_bltn (v := .ty "int") (by rfl) T.n_int boot_int (by rfl)) pa_nil))))) (pw_or (pt_val (pe_callB call_isi (by rfl) T.n_isinstance boot_isinstance (pa_cons (pv 5) (pa_cons (pe_bltn (v := .ty "bool") (by rfl) T.n_bool boot_bool (by rfl)) pa_nil)))) (pw_or1 (pt_cmpR (op_neS hr) (pv 4) (pv 2) (nomark _))))).pt (pss_one (ps_ret pe_bl)) pss_nil)
      (pss_cons (ps_if (pt_cmpR op_ne (pv 5) (pe_call (ok__law_due T) (hr.mono (by decide)) (by rfl) T.m__law_due T.F__law_due.kp T.B__law_due .nil pass0 (pa_cons (pv 2) (pa_cons (pv 3) pa_nil))) (nomark _)) (pss_one (ps_ret pe_bl)) pss_nil)
      (pss_one (ps_ret (pe_cmpR op_eq (pe_call (ok_words_at T) (hr.mono (by decide)) (by rfl) T.m_words_at T.F_words_at.kp T.B_words_at .nil pass0 (pa_cons (pv 4) (pa_cons (pe_op op_sub (pe_op op_add (pv 3) pe_int) (pe_op op_mul pe_int (pe_op op_fdiv (pv 3) pe_int))) pa_nil))) (pe_call (ok__law_due T) (hr.mono (by decide)) (by rfl) T.m__law_due T.F__law_due.kp T.B__law_due .nil pass0 (pa_cons (pv 2) (pa_cons (pe_op op_sub (pe_op op_add (pv 3) pe_int) (pe_op op_mul pe_int (pe_op op_fdiv (pv 3) pe_int))) pa_nil))) (nomark _))))))))))), ?_⟩
    refine ⟨_, rfl, a, ns, 0, rfl, hS, by decide, fun z => ⟨z, 1, rfl, by decide, by decide, fun b far st H1 s1 nb hb hf hst => ?_⟩⟩
    refine ⟨_, rfl, a, ns, 1, rfl, s1.seq hS, by decide, fun z2 => ⟨z2, 2, rfl, by decide, by decide, fun b2 far2 st2 H2 s2 nb2 hb2 hf2 hst2 => ?_⟩⟩
    have bb : b2 ≠ b := by rintro rfl; rw [show H1 b2 = _ from hb] at nb2; cases nb2
    refine ⟨_, rfl, b, 3, far, st, rfl, s2 _ _ hb, hf, hst, by decide, by decide, fun y far3 st3 y0 y1 hf3 hst3 => ⟨_, _, rfl, rfl, ?_⟩⟩
    refine ⟨b2, _, far2, st2, rfl, by unfold Bag; rw [upd_ne bb]; exact hb2, hf2, hst2, by omega, by omega, fun ps q H3 but3 hq hTL => ?_⟩
    have hb3 : Bag H3 b far3 st3 := but3 _ _ upd_same bb.symm
    clear but3
    have tp := tpl_of hTL
    refine ⟨_, rfl, (by show 2 ≤ sizeLine; decide), fun li H4 nli s4 hli => ⟨_, rfl, b, 8, far3, st3, rfl, s4 _ _ hb3, hf3, hst3, by decide, by decide, fun c far5 st5 c0 c1 hf5 hst5 => ⟨_, _, rfl, rfl, ⟨by decide, by decide⟩, ?_⟩⟩⟩
    have lib : li ≠ b := by rintro rfl; rw [show H3 li = _ from hb3] at nli; cases nli
    have qb : q ≠ b := by
      rintro rfl
      obtain ⟨_, vs, e, hv, hi⟩ := of_l hq
      cases e
      rw [show H3 q = _ from hb3] at hv
      cases hv
      cases ps with
      | nil => exact absurd hi.length (by simp)
      | cons p ps =>
        obtain ⟨_, _, e2, hx, _⟩ := of_cons (show Iss H3 (lf p :: ps.map lf) _ from hi)
        obtain ⟨t, e3, _⟩ := of_lf hx
        injection e2 with e4
        rw [e3] at e4
        cases e4
    have hq5 : Is (upd H4 b (.lst [.int far5, .int st5])) (lfs ps) (.ref q) := is_but (s4 _ _ hb3) But.upd qb (hq.mono s4)
    refine ⟨li, _, _, .int (if c < 7 then 9 else 20), rfl, rfl, SqL.of (by rw [upd_ne lib]; exact hli), ?_, ?_⟩
    · by_cases h7 : c < 7
      · rw [if_pos h7]; exact ix_D (j := 0) (by show c / 7 = 0; omega) rfl
      · rw [if_neg h7]; exact ix_D (j := 1) (by show c / 7 = 1; omega) rfl
    refine ⟨b, _, far5, st5, rfl, upd_same, hf5, hst5, by split <;> decide, by split <;> decide, fun x far6 st6 x0 x1 hf6 hst6 => ⟨_, _, rfl, rfl, ?_⟩⟩
    have x20 : x < 20 := by split at x1 <;> omega
    have hq6 : Is (upd (upd H4 b (.lst [.int far5, .int st5])) b (.lst [.int far6, .int st6])) (lfs ps) (.ref q) := is_but upd_same But.upd qb hq5
    generalize upd (upd H4 b (.lst [.int far5, .int st5])) b (.lst [.int far6, .int st6]) = H6 at hq6 ⊢
    refine ⟨_, rfl, _, _, rfl, .inl hq6, fun hd H7 nh s7 hh => ?_⟩
    have hh : Is H7 (lfs ps) (.ref hd) := hh
    have hq7 := hq6.mono s7
    refine ⟨_, rfl, _, rfl, .ref hd, ps, 1 + x, rfl, hh, tp, by omega, by omega, fun H8 s8 => ?_⟩
    refine ⟨_, rfl, _, "int", _, true, rfl, .int _, rfl, true, rfl, iteF ⟨_, rfl, _, "bool", _, false, rfl, .int _, kit_int_bool, false, rfl, iteF ⟨_, rfl, _, rfl, 2, true, eqD_lfs ps (hh.mono s8) (hq7.mono s8), by decide, _, rfl, iteF ?_⟩⟩⟩
    refine ⟨_, rfl, _, rfl, _, rfl, .ref q, ps, 1 + x, rfl, hq7.mono s8, tp, by omega, by omega, fun H9 s9 => ⟨rfl, _, rfl, iteNE (fun h => absurd (tp.eq (by omega) (by omega)) h) (fun _ => ?_)⟩⟩
    have b1 : 1 ≤ 1 + x + 1 - 2 * ((1 + x) / 20) := by omega
    have b2 : 1 + x + 1 - 2 * ((1 + x) / 20) ≤ 20 := by omega
    refine ⟨_, rfl, _, rfl, _, _, rfl, rfl, _, rfl, _, _, rfl, rfl, ⟨by decide, by decide⟩, _, _, rfl, rfl, .inl ⟨by decide, by decide⟩, _, _, rfl, rfl, .ref hd, ps, _, rfl, (hh.mono s8).mono s9, tp, b1, b2, fun H10 s10 => ?_⟩
    refine ⟨_, rfl, _, rfl, _, _, rfl, rfl, _, rfl, _, _, rfl, rfl, ⟨by decide, by decide⟩, _, _, rfl, rfl, .inl ⟨by decide, by decide⟩, _, _, rfl, rfl, .ref q, ps, _, rfl, ((hq7.mono s8).mono s9).mono s10, tp, b1, b2, fun H11 s11 => ⟨rfl, ?_⟩⟩
    rw [tp.eq b1 b2, decide_eq_true rfl]
    exact kk H11
end
theorem us1 {α : Type} {Q : List α → Prop} (h : ∀ x0, Q [x0]) : ∀ us : List α, us.length = 1 → Q us
  := by
  intro us hl
  rcases us with _ | ⟨x0, us⟩
  · simp at hl
  rcases us with _ | ⟨y, us⟩
  · exact h x0
  · simp at hl
theorem us2 {α : Type} {Q : List α → Prop} (h : ∀ x0 x1, Q [x0, x1]) : ∀ us : List α, us.length = 2 → Q us
  := by
  intro us hl
  rcases us with _ | ⟨x0, us⟩
  · simp at hl
  rcases us with _ | ⟨x1, us⟩
  · simp at hl
  rcases us with _ | ⟨y, us⟩
  · exact h x0 x1
  · simp at hl
theorem us3 {α : Type} {Q : List α → Prop} (h : ∀ x0 x1 x2, Q [x0, x1, x2]) : ∀ us : List α, us.length = 3 → Q us
  := by
  intro us hl
  rcases us with _ | ⟨x0, us⟩
  · simp at hl
  rcases us with _ | ⟨x1, us⟩
  · simp at hl
  rcases us with _ | ⟨x2, us⟩
  · simp at hl
  rcases us with _ | ⟨y, us⟩
  · exact h x0 x1 x2
  · simp at hl
theorem us4 {α : Type} {Q : List α → Prop} (h : ∀ x0 x1 x2 x3, Q [x0, x1, x2, x3]) : ∀ us : List α, us.length = 4 → Q us
  := by
  intro us hl
  rcases us with _ | ⟨x0, us⟩
  · simp at hl
  rcases us with _ | ⟨x1, us⟩
  · simp at hl
  rcases us with _ | ⟨x2, us⟩
  · simp at hl
  rcases us with _ | ⟨x3, us⟩
  · simp at hl
  rcases us with _ | ⟨y, us⟩
  · exact h x0 x1 x2 x3
  · simp at hl
theorem all_mk {l : PySem.W.OpenLaw} {w : World} {K : PySem.W.Frag} {h : Heap} {mg : Str → Option Value} {fa : Addr} (X : K.In h) (G : h.Ns mainGlobals mg) (hfa : mg "law" = some (.ref fa))
    {f0 : Addr} {od0 an0 : Option Addr} {sl0 : Array (Option Value)} {oc0 kV0 dc0 pm0 cd0 ct0 : Value}
    (a0 : PySem.W.nsIn K mainGlobals "choose" = some (some (.ref f0))) (l0 : K.lookup f0 = some ⟨oc0, od0, .func (PySem.W.fnOf "choose" "choose" (defArgs s_choose) (defBody s_choose) (defScope s_choose) .none kV0 dc0 pm0 an0 cd0 ct0), sl0⟩) (c0 : PySem.W.codeIn K cd0 "choose" = true) (k0 : PySem.W.keepIn K (.ref f0) = true)
    {f1 : Addr} {od1 an1 : Option Addr} {sl1 : Array (Option Value)} {oc1 kV1 dc1 pm1 cd1 ct1 : Value}
    (a1 : PySem.W.nsIn K mainGlobals "with_more" = some (some (.ref f1))) (l1 : K.lookup f1 = some ⟨oc1, od1, .func (PySem.W.fnOf "with_more" "with_more" (defArgs s_with_more) (defBody s_with_more) (defScope s_with_more) .none kV1 dc1 pm1 an1 cd1 ct1), sl1⟩) (c1 : PySem.W.codeIn K cd1 "with_more" = true) (k1 : PySem.W.keepIn K (.ref f1) = true)
    {f2 : Addr} {od2 an2 : Option Addr} {sl2 : Array (Option Value)} {oc2 kV2 dc2 pm2 cd2 ct2 : Value}
    (a2 : PySem.W.nsIn K mainGlobals "put_between" = some (some (.ref f2))) (l2 : K.lookup f2 = some ⟨oc2, od2, .func (PySem.W.fnOf "put_between" "put_between" (defArgs s_put_between) (defBody s_put_between) (defScope s_put_between) .none kV2 dc2 pm2 an2 cd2 ct2), sl2⟩) (c2 : PySem.W.codeIn K cd2 "put_between" = true) (k2 : PySem.W.keepIn K (.ref f2) = true)
    {f3 : Addr} {od3 an3 : Option Addr} {sl3 : Array (Option Value)} {oc3 kV3 dc3 pm3 cd3 ct3 : Value}
    (a3 : PySem.W.nsIn K mainGlobals "how_many_orders" = some (some (.ref f3))) (l3 : K.lookup f3 = some ⟨oc3, od3, .func (PySem.W.fnOf "how_many_orders" "how_many_orders" (defArgs s_how_many_orders) (defBody s_how_many_orders) (defScope s_how_many_orders) .none kV3 dc3 pm3 an3 cd3 ct3), sl3⟩) (c3 : PySem.W.codeIn K cd3 "how_many_orders" = true) (k3 : PySem.W.keepIn K (.ref f3) = true)
    {f4 : Addr} {od4 an4 : Option Addr} {sl4 : Array (Option Value)} {oc4 kV4 dc4 pm4 cd4 ct4 : Value}
    (a4 : PySem.W.nsIn K mainGlobals "length" = some (some (.ref f4))) (l4 : K.lookup f4 = some ⟨oc4, od4, .func (PySem.W.fnOf "length" "length" (defArgs s_length) (defBody s_length) (defScope s_length) .none kV4 dc4 pm4 an4 cd4 ct4), sl4⟩) (c4 : PySem.W.codeIn K cd4 "length" = true) (k4 : PySem.W.keepIn K (.ref f4) = true)
    {f5 : Addr} {od5 an5 : Option Addr} {sl5 : Array (Option Value)} {oc5 kV5 dc5 pm5 cd5 ct5 : Value}
    (a5 : PySem.W.nsIn K mainGlobals "load" = some (some (.ref f5))) (l5 : K.lookup f5 = some ⟨oc5, od5, .func (PySem.W.fnOf "load" "load" (defArgs s_load) (defBody s_load) (defScope s_load) .none kV5 dc5 pm5 an5 cd5 ct5), sl5⟩) (c5 : PySem.W.codeIn K cd5 "load" = true) (k5 : PySem.W.keepIn K (.ref f5) = true)
    {f6 : Addr} {od6 an6 : Option Addr} {sl6 : Array (Option Value)} {oc6 kV6 dc6 pm6 cd6 ct6 : Value}
    (a6 : PySem.W.nsIn K mainGlobals "least_place" = some (some (.ref f6))) (l6 : K.lookup f6 = some ⟨oc6, od6, .func (PySem.W.fnOf "least_place" "least_place" (defArgs s_least_place) (defBody s_least_place) (defScope s_least_place) .none kV6 dc6 pm6 an6 cd6 ct6), sl6⟩) (c6 : PySem.W.codeIn K cd6 "least_place" = true) (k6 : PySem.W.keepIn K (.ref f6) = true)
    {f7 : Addr} {od7 an7 : Option Addr} {sl7 : Array (Option Value)} {oc7 kV7 dc7 pm7 cd7 ct7 : Value}
    (a7 : PySem.W.nsIn K mainGlobals "words_at" = some (some (.ref f7))) (l7 : K.lookup f7 = some ⟨oc7, od7, .func (PySem.W.fnOf "words_at" "words_at" (defArgs s_words_at) (defBody s_words_at) (defScope s_words_at) .none kV7 dc7 pm7 an7 cd7 ct7), sl7⟩) (c7 : PySem.W.codeIn K cd7 "words_at" = true) (k7 : PySem.W.keepIn K (.ref f7) = true)
    {f8 : Addr} {od8 an8 : Option Addr} {sl8 : Array (Option Value)} {oc8 kV8 dc8 pm8 cd8 ct8 : Value}
    (a8 : PySem.W.nsIn K mainGlobals "_law_cell_at" = some (some (.ref f8))) (l8 : K.lookup f8 = some ⟨oc8, od8, .func (PySem.W.fnOf "_law_cell_at" "_law_cell_at" (defArgs s__law_cell_at) (defBody s__law_cell_at) (defScope s__law_cell_at) .none kV8 dc8 pm8 an8 cd8 ct8), sl8⟩) (c8 : PySem.W.codeIn K cd8 "_law_cell_at" = true) (k8 : PySem.W.keepIn K (.ref f8) = true)
    {f9 : Addr} {od9 an9 : Option Addr} {sl9 : Array (Option Value)} {oc9 kV9 dc9 pm9 cd9 ct9 : Value}
    (a9 : PySem.W.nsIn K mainGlobals "_law_bag" = some (some (.ref f9))) (l9 : K.lookup f9 = some ⟨oc9, od9, .func (PySem.W.fnOf "_law_bag" "_law_bag" (defArgs s__law_bag) (defBody s__law_bag) (defScope s__law_bag) .none kV9 dc9 pm9 an9 cd9 ct9), sl9⟩) (c9 : PySem.W.codeIn K cd9 "_law_bag" = true) (k9 : PySem.W.keepIn K (.ref f9) = true)
    {f10 : Addr} {od10 an10 : Option Addr} {sl10 : Array (Option Value)} {oc10 kV10 dc10 pm10 cd10 ct10 : Value}
    (a10 : PySem.W.nsIn K mainGlobals "_law_mixed" = some (some (.ref f10))) (l10 : K.lookup f10 = some ⟨oc10, od10, .func (PySem.W.fnOf "_law_mixed" "_law_mixed" (defArgs s__law_mixed) (defBody s__law_mixed) (defScope s__law_mixed) .none kV10 dc10 pm10 an10 cd10 ct10), sl10⟩) (c10 : PySem.W.codeIn K cd10 "_law_mixed" = true) (k10 : PySem.W.keepIn K (.ref f10) = true)
    {f11 : Addr} {od11 an11 : Option Addr} {sl11 : Array (Option Value)} {oc11 kV11 dc11 pm11 cd11 ct11 : Value}
    (a11 : PySem.W.nsIn K mainGlobals "_law_digit" = some (some (.ref f11))) (l11 : K.lookup f11 = some ⟨oc11, od11, .func (PySem.W.fnOf "_law_digit" "_law_digit" (defArgs s__law_digit) (defBody s__law_digit) (defScope s__law_digit) .none kV11 dc11 pm11 an11 cd11 ct11), sl11⟩) (c11 : PySem.W.codeIn K cd11 "_law_digit" = true) (k11 : PySem.W.keepIn K (.ref f11) = true)
    {f12 : Addr} {od12 an12 : Option Addr} {sl12 : Array (Option Value)} {oc12 kV12 dc12 pm12 cd12 ct12 : Value}
    (a12 : PySem.W.nsIn K mainGlobals "_law_crossings" = some (some (.ref f12))) (l12 : K.lookup f12 = some ⟨oc12, od12, .func (PySem.W.fnOf "_law_crossings" "_law_crossings" (defArgs s__law_crossings) (defBody s__law_crossings) (defScope s__law_crossings) .none kV12 dc12 pm12 an12 cd12 ct12), sl12⟩) (c12 : PySem.W.codeIn K cd12 "_law_crossings" = true) (k12 : PySem.W.keepIn K (.ref f12) = true)
    {f13 : Addr} {od13 an13 : Option Addr} {sl13 : Array (Option Value)} {oc13 kV13 dc13 pm13 cd13 ct13 : Value}
    (a13 : PySem.W.nsIn K mainGlobals "_law_one_more" = some (some (.ref f13))) (l13 : K.lookup f13 = some ⟨oc13, od13, .func (PySem.W.fnOf "_law_one_more" "_law_one_more" (defArgs s__law_one_more) (defBody s__law_one_more) (defScope s__law_one_more) .none kV13 dc13 pm13 an13 cd13 ct13), sl13⟩) (c13 : PySem.W.codeIn K cd13 "_law_one_more" = true) (k13 : PySem.W.keepIn K (.ref f13) = true)
    {f14 : Addr} {od14 an14 : Option Addr} {sl14 : Array (Option Value)} {oc14 kV14 dc14 pm14 cd14 ct14 : Value}
    (a14 : PySem.W.nsIn K mainGlobals "_law_drawn" = some (some (.ref f14))) (l14 : K.lookup f14 = some ⟨oc14, od14, .func (PySem.W.fnOf "_law_drawn" "_law_drawn" (defArgs s__law_drawn) (defBody s__law_drawn) (defScope s__law_drawn) .none kV14 dc14 pm14 an14 cd14 ct14), sl14⟩) (c14 : PySem.W.codeIn K cd14 "_law_drawn" = true) (k14 : PySem.W.keepIn K (.ref f14) = true)
    {f15 : Addr} {od15 an15 : Option Addr} {sl15 : Array (Option Value)} {oc15 kV15 dc15 pm15 cd15 ct15 : Value}
    (a15 : PySem.W.nsIn K mainGlobals "_law_short_ones" = some (some (.ref f15))) (l15 : K.lookup f15 = some ⟨oc15, od15, .func (PySem.W.fnOf "_law_short_ones" "_law_short_ones" (defArgs s__law_short_ones) (defBody s__law_short_ones) (defScope s__law_short_ones) .none kV15 dc15 pm15 an15 cd15 ct15), sl15⟩) (c15 : PySem.W.codeIn K cd15 "_law_short_ones" = true) (k15 : PySem.W.keepIn K (.ref f15) = true)
    {f16 : Addr} {od16 an16 : Option Addr} {sl16 : Array (Option Value)} {oc16 kV16 dc16 pm16 cd16 ct16 : Value}
    (a16 : PySem.W.nsIn K mainGlobals "_law_put_in" = some (some (.ref f16))) (l16 : K.lookup f16 = some ⟨oc16, od16, .func (PySem.W.fnOf "_law_put_in" "_law_put_in" (defArgs s__law_put_in) (defBody s__law_put_in) (defScope s__law_put_in) .none kV16 dc16 pm16 an16 cd16 ct16), sl16⟩) (c16 : PySem.W.codeIn K cd16 "_law_put_in" = true) (k16 : PySem.W.keepIn K (.ref f16) = true)
    {f17 : Addr} {od17 an17 : Option Addr} {sl17 : Array (Option Value)} {oc17 kV17 dc17 pm17 cd17 ct17 : Value}
    (a17 : PySem.W.nsIn K mainGlobals "_law_due" = some (some (.ref f17))) (l17 : K.lookup f17 = some ⟨oc17, od17, .func (PySem.W.fnOf "_law_due" "_law_due" (defArgs s__law_due) (defBody s__law_due) (defScope s__law_due) .none kV17 dc17 pm17 an17 cd17 ct17), sl17⟩) (c17 : PySem.W.codeIn K cd17 "_law_due" = true) (k17 : PySem.W.keepIn K (.ref f17) = true)
    {f18 : Addr} {od18 an18 : Option Addr} {sl18 : Array (Option Value)} {oc18 kV18 dc18 pm18 cd18 ct18 : Value}
    (a18 : PySem.W.nsIn K mainGlobals "law" = some (some (.ref f18))) (l18 : K.lookup f18 = some ⟨oc18, od18, .func (PySem.W.fnOf "law" "law" (defArgs s_law) (defBody s_law) (defScope s_law) .none kV18 dc18 pm18 an18 cd18 ct18), sl18⟩) (c18 : PySem.W.codeIn K cd18 "law" = true) (k18 : PySem.W.keepIn K (.ref f18) = true)
    (z0 : PySem.W.nsIn K mainGlobals "range" = some none)
    (z1 : PySem.W.nsIn K mainGlobals "sorted" = some none)
    (z2 : PySem.W.nsIn K mainGlobals "sum" = some none)
    (z3 : PySem.W.nsIn K mainGlobals "tuple" = some none)
    (z4 : PySem.W.nsIn K mainGlobals "set" = some none)
    (z5 : PySem.W.nsIn K mainGlobals "max" = some none)
    (z6 : PySem.W.nsIn K mainGlobals "len" = some none)
    (z7 : PySem.W.nsIn K mainGlobals "abs" = some none)
    (z8 : PySem.W.nsIn K mainGlobals "list" = some none)
    (z9 : PySem.W.nsIn K mainGlobals "min" = some none)
    (z10 : PySem.W.nsIn K mainGlobals "isinstance" = some none)
    (z11 : PySem.W.nsIn K mainGlobals "bool" = some none)
    (z12 : PySem.W.nsIn K mainGlobals "int" = some none)
    : ∃ fd : FuncData, (∀ (s : Shared) (v : Value), BindsTo s fd ⟨[v], []⟩ [("_law_script", v)]) ∧ ∀ base : Heap, K.In base → base.Ns mainGlobals mg → FnOk l.prog w K mg base CX0 11 fa fd ["_law_script"] (sp_law K) := by
  have e := hfa.symm.trans (PySem.W.mg_of X G a18)
  cases e
  have F0 := fun_mk (st := s_choose) l0 c0 k0
  have B0 := F0.binds (ps := ["number", "chosen"]) fun _ _ _ _ _ _ us hl => us2 (Q := fun us => bindArgs _ ⟨us, []⟩ = pure (List.zip _ us)) (fun _ _ => rfl) us hl
  have F1 := fun_mk (st := s_with_more) l1 c1 k1
  have B1 := F1.binds (ps := ["numbers", "place", "more"]) fun _ _ _ _ _ _ us hl => us3 (Q := fun us => bindArgs _ ⟨us, []⟩ = pure (List.zip _ us)) (fun _ _ _ => rfl) us hl
  have F2 := fun_mk (st := s_put_between) l2 c2 k2
  have B2 := F2.binds (ps := ["numbers", "first", "last", "alike"]) fun _ _ _ _ _ _ us hl => us4 (Q := fun us => bindArgs _ ⟨us, []⟩ = pure (List.zip _ us)) (fun _ _ _ _ => rfl) us hl
  have F3 := fun_mk (st := s_how_many_orders) l3 c3 k3
  have B3 := F3.binds (ps := ["d", "marks"]) fun _ _ _ _ _ _ us hl => us2 (Q := fun us => bindArgs _ ⟨us, []⟩ = pure (List.zip _ us)) (fun _ _ => rfl) us hl
  have F4 := fun_mk (st := s_length) l4 c4 k4
  have B4 := F4.binds (ps := ["template"]) fun _ _ _ _ _ _ us hl => us1 (Q := fun us => bindArgs _ ⟨us, []⟩ = pure (List.zip _ us)) (fun _ => rfl) us hl
  have F5 := fun_mk (st := s_load) l5 c5 k5
  have B5 := F5.binds (ps := ["template", "j"]) fun _ _ _ _ _ _ us hl => us2 (Q := fun us => bindArgs _ ⟨us, []⟩ = pure (List.zip _ us)) (fun _ _ => rfl) us hl
  have F6 := fun_mk (st := s_least_place) l6 c6 k6
  have B6 := F6.binds (ps := ["template"]) fun _ _ _ _ _ _ us hl => us1 (Q := fun us => bindArgs _ ⟨us, []⟩ = pure (List.zip _ us)) (fun _ => rfl) us hl
  have F7 := fun_mk (st := s_words_at) l7 c7 k7
  have B7 := F7.binds (ps := ["template", "place"]) fun _ _ _ _ _ _ us hl => us2 (Q := fun us => bindArgs _ ⟨us, []⟩ = pure (List.zip _ us)) (fun _ _ => rfl) us hl
  have F8 := fun_mk (st := s__law_cell_at) l8 c8 k8
  have B8 := F8.binds (ps := ["_law_script", "_law_k"]) fun _ _ _ _ _ _ us hl => us2 (Q := fun us => bindArgs _ ⟨us, []⟩ = pure (List.zip _ us)) (fun _ _ => rfl) us hl
  have F9 := fun_mk (st := s__law_bag) l9 c9 k9
  have B9 := F9.binds (ps := ["_law_cell", "_law_place"]) fun _ _ _ _ _ _ us hl => us2 (Q := fun us => bindArgs _ ⟨us, []⟩ = pure (List.zip _ us)) (fun _ _ => rfl) us hl
  have F10 := fun_mk (st := s__law_mixed) l10 c10 k10
  have B10 := F10.binds (ps := ["_law_bag_here"]) fun _ _ _ _ _ _ us hl => us1 (Q := fun us => bindArgs _ ⟨us, []⟩ = pure (List.zip _ us)) (fun _ => rfl) us hl
  have F11 := fun_mk (st := s__law_digit) l11 c11 k11
  have B11 := F11.binds (ps := ["_law_bag_here", "_law_many"]) fun _ _ _ _ _ _ us hl => us2 (Q := fun us => bindArgs _ ⟨us, []⟩ = pure (List.zip _ us)) (fun _ _ => rfl) us hl
  have F12 := fun_mk (st := s__law_crossings) l12 c12 k12
  have B12 := F12.binds (ps := ["_law_lifts"]) fun _ _ _ _ _ _ us hl => us1 (Q := fun us => bindArgs _ ⟨us, []⟩ = pure (List.zip _ us)) (fun _ => rfl) us hl
  have F13 := fun_mk (st := s__law_one_more) l13 c13 k13
  have B13 := F13.binds (ps := ["_law_bag_here", "_law_lifts", "_law_room"]) fun _ _ _ _ _ _ us hl => us3 (Q := fun us => bindArgs _ ⟨us, []⟩ = pure (List.zip _ us)) (fun _ _ _ => rfl) us hl
  have F14 := fun_mk (st := s__law_drawn) l14 c14 k14
  have B14 := F14.binds (ps := ["_law_bag_here", "_law_k"]) fun _ _ _ _ _ _ us hl => us2 (Q := fun us => bindArgs _ ⟨us, []⟩ = pure (List.zip _ us)) (fun _ _ => rfl) us hl
  have F15 := fun_mk (st := s__law_short_ones) l15 c15 k15
  have B15 := F15.binds (ps := ["_law_template", "_law_place", "_law_end"]) fun _ _ _ _ _ _ us hl => us3 (Q := fun us => bindArgs _ ⟨us, []⟩ = pure (List.zip _ us)) (fun _ _ _ => rfl) us hl
  have F16 := fun_mk (st := s__law_put_in) l16 c16 k16
  have B16 := F16.binds (ps := ["_law_sizes", "_law_lift"]) fun _ _ _ _ _ _ us hl => us2 (Q := fun us => bindArgs _ ⟨us, []⟩ = pure (List.zip _ us)) (fun _ _ => rfl) us hl
  have F17 := fun_mk (st := s__law_due) l17 c17 k17
  have B17 := F17.binds (ps := ["_law_template", "_law_place"]) fun _ _ _ _ _ _ us hl => us2 (Q := fun us => bindArgs _ ⟨us, []⟩ = pure (List.zip _ us)) (fun _ _ => rfl) us hl
  have F18 := fun_mk (st := s_law) l18 c18 k18
  have B18 := F18.binds (ps := ["_law_script"]) fun _ _ _ _ _ _ us hl => us1 (Q := fun us => bindArgs _ ⟨us, []⟩ = pure (List.zip _ us)) (fun _ => rfl) us hl
  let T : Fns K mg := { f_choose := f0, d_choose := _, F_choose := F0, B_choose := B0, m_choose := PySem.W.mg_of X G a0, f_with_more := f1, d_with_more := _, F_with_more := F1, B_with_more := B1, m_with_more := PySem.W.mg_of X G a1, f_put_between := f2, d_put_between := _, F_put_between := F2, B_put_between := B2, m_put_between := PySem.W.mg_of X G a2, f_how_many_orders := f3, d_how_many_orders := _, F_how_many_orders := F3, B_how_many_orders := B3, m_how_many_orders := PySem.W.mg_of X G a3, f_length := f4, d_length := _, F_length := F4, B_length := B4, m_length := PySem.W.mg_of X G a4, f_load := f5, d_load := _, F_load := F5, B_load := B5, m_load := PySem.W.mg_of X G a5, f_least_place := f6, d_least_place := _, F_least_place := F6, B_least_place := B6, m_least_place := PySem.W.mg_of X G a6, f_words_at := f7, d_words_at := _, F_words_at := F7, B_words_at := B7, m_words_at := PySem.W.mg_of X G a7, f__law_cell_at := f8, d__law_cell_at := _, F__law_cell_at := F8, B__law_cell_at := B8, m__law_cell_at := PySem.W.mg_of X G a8, f__law_bag := f9, d__law_bag := _, F__law_bag := F9, B__law_bag := B9, m__law_bag := PySem.W.mg_of X G a9, f__law_mixed := f10, d__law_mixed := _, F__law_mixed := F10, B__law_mixed := B10, m__law_mixed := PySem.W.mg_of X G a10, f__law_digit := f11, d__law_digit := _, F__law_digit := F11, B__law_digit := B11, m__law_digit := PySem.W.mg_of X G a11, f__law_crossings := f12, d__law_crossings := _, F__law_crossings := F12, B__law_crossings := B12, m__law_crossings := PySem.W.mg_of X G a12, f__law_one_more := f13, d__law_one_more := _, F__law_one_more := F13, B__law_one_more := B13, m__law_one_more := PySem.W.mg_of X G a13, f__law_drawn := f14, d__law_drawn := _, F__law_drawn := F14, B__law_drawn := B14, m__law_drawn := PySem.W.mg_of X G a14, f__law_short_ones := f15, d__law_short_ones := _, F__law_short_ones := F15, B__law_short_ones := B15, m__law_short_ones := PySem.W.mg_of X G a15, f__law_put_in := f16, d__law_put_in := _, F__law_put_in := F16, B__law_put_in := B16, m__law_put_in := PySem.W.mg_of X G a16, f__law_due := f17, d__law_due := _, F__law_due := F17, B__law_due := B17, m__law_due := PySem.W.mg_of X G a17, f_law := fa, d_law := _, F_law := F18, B_law := B18, m_law := PySem.W.mg_of X G a18, n_range := PySem.W.mg_none_of X G z0, n_sorted := PySem.W.mg_none_of X G z1, n_sum := PySem.W.mg_none_of X G z2, n_tuple := PySem.W.mg_none_of X G z3, n_set := PySem.W.mg_none_of X G z4, n_max := PySem.W.mg_none_of X G z5, n_len := PySem.W.mg_none_of X G z6, n_abs := PySem.W.mg_none_of X G z7, n_list := PySem.W.mg_none_of X G z8, n_min := PySem.W.mg_none_of X G z9, n_isinstance := PySem.W.mg_none_of X G z10, n_bool := PySem.W.mg_none_of X G z11, n_int := PySem.W.mg_none_of X G z12 }
  exact ⟨PySem.W.fnOf "law" "law" (defArgs s_law) (defBody s_law) (defScope s_law) .none kV18 dc18 pm18 an18 cd18 ct18, fun s v => .of_eq rfl, fun base _ _ => ok_law T⟩
theorem walk {l : PySem.W.OpenLaw} {q : Program} {loose : List Str} {XP : (Str → Option Value) → Heap → Prop} {YP : World → Heap → Prop} {d : DefRec} {K : Params → PySem.W.Frag} (hn : l.most = some 63) (hdf : d.params.defaults = [])
    (hY : ∀ (w : World) (h : Heap), YP w h → (K w.params).In h)
    (F : ∀ (w : World) (mg : Str → Option Value) (fa : Addr) (h : Heap), (K w.params).In h → h.Ns mainGlobals mg → mg d.name = some (.ref fa) →
      ∃ fd : FuncData, (∀ (s : Shared) (u : Value), BindsTo s fd ⟨[u], []⟩ [("_law_script", u)]) ∧ ∀ base : Heap, (K w.params).In base → base.Ns mainGlobals mg → FnOk l.prog w (K w.params) mg base CX0 11 fa fd ["_law_script"] (sp_law (K w.params))) :
    PySem.W.WalkO q loose XP YP l.row.toRowW d [] (fun f vs => PySem.call f vs) :=
  L2.walk_of (n := 63) (k := 11) (x := "_law_script") (CX := fun _ => CX0) (sp := fun w => sp_law (K w.params)) hn (by decide) hdf ⟨rfl, by decide, by decide⟩ hY F (fun _ _ a ns hl _ hS => ⟨a, ns, rfl, hS, hl, fun _ => rfl⟩) fun _ _ _ _ _ z => z
end Mine
open PySem PySem.W PyProof.Rows
namespace PySem.W.Fast
theorem tw514644507407706295 : True := trivial
theorem tw8167967703470545024 : True := trivial
theorem tw11143698577518888743 : True := trivial
theorem tw14318488874888785326 : True := trivial
theorem tw4632615591978171210 : True := trivial
theorem tw15956677943928575656 : True := trivial
theorem tw7893573855697651230 : True := trivial
theorem tw10377474098493972556 : True := trivial
theorem tw4352592989981029562 : True := trivial
theorem tw1681803977820958383 : True := trivial
theorem tw7335932766427148832 : True := trivial
theorem tw6022662927932974556 : True := trivial
theorem tw6146769411111193281 : True := trivial
theorem tw17602307459115476199 : True := trivial
theorem tw431450552826884634 : True := trivial
theorem tw13700305815802701197 : True := trivial
theorem tw5327851106789258215 : True := trivial
theorem tw16495094453372122172 : True := trivial
theorem tw7612215632122321458 : True := trivial
theorem tw2744917922695789595 : True := trivial
theorem tw9614828486212696358 : True := trivial
theorem tw6956632365818890949 : True := trivial
theorem tw9667918475198811023 : True := trivial
theorem tw7940447477115003420 : True := trivial
theorem tw15672884632672530196 : True := trivial
theorem tw16314743200815583284 : True := trivial
theorem tw12252621748225148142 : True := trivial
theorem tw15316354540580339971 : True := trivial
theorem tw10584527167896550737 : True := trivial
theorem tw243940948163917398 : True := trivial
theorem tw17466135487605284006 : True := trivial
theorem tw12273014304080048016 : True := trivial
theorem tw17721710477674446593 : True := trivial
theorem tw11582052509729439859 : True := trivial
theorem tw16466320936745680526 : True := trivial
theorem tw16711462324972081522 : True := trivial
theorem tw1103785638653984184 : True := trivial
theorem tw1226844109544466530 : True := trivial
theorem tw1976561751651668018 : True := trivial
theorem tw4134072996233959146 : True := trivial
theorem tw4795472295834611216 : True := trivial
theorem tw6826872437055701215 : True := trivial
theorem tw9774605452917176622 : True := trivial
theorem tw4053259947414501313 : True := trivial
theorem tw6849465024270940020 : True := trivial
theorem tw2624342631284607996 : True := trivial
theorem tw232558039979172250 : True := trivial
theorem tw10799880569616029824 : True := trivial
theorem tw16007669270348786783 : True := trivial
theorem tw16994159136924700033 : True := trivial
theorem tw15652262872479019206 : True := trivial
theorem tw8084253484131088490 : True := trivial
theorem tw16471443426142690244 : True := trivial
theorem tw1682830624051725748 : True := trivial
theorem tw10567838342810565382 : True := trivial
theorem tw1700796394751273541 : True := trivial
theorem tw1899729219380811580 : True := trivial
theorem tw14801900656056064975 : True := trivial
theorem tw8298372862032297649 : True := trivial
theorem tw16901187768394446946 : True := trivial
theorem tw2236403029685891715 : True := trivial
theorem tw13792144348129322261 : True := trivial
theorem tw1335830161677608358 : True := trivial
theorem tw3965033268550273948 : True := trivial
theorem tw12994255108189202335 : True := trivial
theorem tw17547113082888515234 : True := trivial
theorem tw4677763208142773111 : True := trivial
theorem tw12492849234819335049 : True := trivial
theorem tw8285078168354906219 : True := trivial
theorem tw9512805194974640512 : True := trivial
theorem tw13718147214565449862 : True := trivial
theorem tw1547232464993513812 : True := trivial
theorem tw10519491443818818750 : True := trivial
theorem tw1586955722521368439 : True := trivial
theorem tw8476900041041091884 : True := trivial
theorem tw13207258650476719234 : True := trivial
theorem tw4469190737666745217 : True := trivial
theorem tw17918328387261773132 : True := trivial
theorem tw13594443280413685103 : True := trivial
theorem tw10378651776319834469 : True := trivial
theorem tw11163667804689553738 : True := trivial
theorem tw4867176506055378154 : True := trivial
theorem tw5565120307481756543 : True := trivial
theorem tw7638607518806178895 : True := trivial
theorem tw2815627538704709717 : True := trivial
theorem tw13698473493907094521 : True := trivial
theorem tw12164808697942520321 : True := trivial
theorem tw11954479449391311200 : True := trivial
theorem tw14630477795176511518 : True := trivial
theorem tw4232740104616854302 : True := trivial
theorem tw290308245543442584 : True := trivial
theorem tw17414923266086962925 : True := trivial
theorem tw10150997156339714994 : True := trivial
theorem tw7185412973291728522 : True := trivial
theorem tw18439252334467942805 : True := trivial
theorem tw17369886389865517251 : True := trivial
theorem tw7349977395681828844 : True := trivial
theorem tw3223624683971598002 : True := trivial
theorem tw5215406581059557713 : True := trivial
theorem tw12589058133283506459 : True := trivial
theorem tw17134362531677784613 : True := trivial
theorem tw14589869493093740517 : True := trivial
theorem tw9856295182145494937 : True := trivial
theorem tw2662949812525565449 : True := trivial
theorem tw9028688989624960815 : True := trivial
theorem tw8864047845081579522 : True := trivial
theorem tw4624622830337459457 : True := trivial
theorem tw13718245544340229023 : True := trivial
theorem tw16948469044382004773 : True := trivial
theorem tw12880196903571124903 : True := trivial
theorem tw3204970275298851527 : True := trivial
theorem tw3450323124292345103 : True := trivial
theorem tw7111627686758084810 : True := trivial
theorem tw9074645257173282695 : True := trivial
theorem tw9025881473363344627 : True := trivial
end PySem.W.Fast
set_option maxRecDepth 100000 in
set_option maxHeartbeats 0 in
theorem PySem.Challenge.cw_floorcurves_k62_words_of_templates_holds : PySem.Challenge.rw_floorcurves_k62_words_of_templates.Holds := by
  w_on; o_law; k_head; (case hw => w_witness2)
  k_fill
  refine Mine.walk (l := PySem.Challenge.rw_floorcurves_k62_words_of_templates) rfl rfl (fun w h Y => PySem.W.kIn_of Y) ?F
  case F =>
    intro w mg fa h KX G hmg
    refine' Mine.all_mk KX G hmg ?a0 ?l0 ?c0 ?k0 ?a1 ?l1 ?c1 ?k1 ?a2 ?l2 ?c2 ?k2 ?a3 ?l3 ?c3 ?k3 ?a4 ?l4 ?c4 ?k4 ?a5 ?l5 ?c5 ?k5 ?a6 ?l6 ?c6 ?k6 ?a7 ?l7 ?c7 ?k7 ?a8 ?l8 ?c8 ?k8 ?a9 ?l9 ?c9 ?k9 ?a10 ?l10 ?c10 ?k10 ?a11 ?l11 ?c11 ?k11 ?a12 ?l12 ?c12 ?k12 ?a13 ?l13 ?c13 ?k13 ?a14 ?l14 ?c14 ?k14 ?a15 ?l15 ?c15 ?k15 ?a16 ?l16 ?c16 ?k16 ?a17 ?l17 ?c17 ?k17 ?a18 ?l18 ?c18 ?k18 ?z0 ?z1 ?z2 ?z3 ?z4 ?z5 ?z6 ?z7 ?z8 ?z9 ?z10 ?z11 ?z12
    (case a0 => k_is)
    (case l0 => k_is)
    (case c0 => k_is)
    (case k0 => k_is)
    (case a1 => k_is)
    (case l1 => k_is)
    (case c1 => k_is)
    (case k1 => k_is)
    (case a2 => k_is)
    (case l2 => k_is)
    (case c2 => k_is)
    (case k2 => k_is)
    (case a3 => k_is)
    (case l3 => k_is)
    (case c3 => k_is)
    (case k3 => k_is)
    (case a4 => k_is)
    (case l4 => k_is)
    (case c4 => k_is)
    (case k4 => k_is)
    (case a5 => k_is)
    (case l5 => k_is)
    (case c5 => k_is)
    (case k5 => k_is)
    (case a6 => k_is)
    (case l6 => k_is)
    (case c6 => k_is)
    (case k6 => k_is)
    (case a7 => k_is)
    (case l7 => k_is)
    (case c7 => k_is)
    (case k7 => k_is)
    (case a8 => k_is)
    (case l8 => k_is)
    (case c8 => k_is)
    (case k8 => k_is)
    (case a9 => k_is)
    (case l9 => k_is)
    (case c9 => k_is)
    (case k9 => k_is)
    (case a10 => k_is)
    (case l10 => k_is)
    (case c10 => k_is)
    (case k10 => k_is)
    (case a11 => k_is)
    (case l11 => k_is)
    (case c11 => k_is)
    (case k11 => k_is)
    (case a12 => k_is)
    (case l12 => k_is)
    (case c12 => k_is)
    (case k12 => k_is)
    (case a13 => k_is)
    (case l13 => k_is)
    (case c13 => k_is)
    (case k13 => k_is)
    (case a14 => k_is)
    (case l14 => k_is)
    (case c14 => k_is)
    (case k14 => k_is)
    (case a15 => k_is)
    (case l15 => k_is)
    (case c15 => k_is)
    (case k15 => k_is)
    (case a16 => k_is)
    (case l16 => k_is)
    (case c16 => k_is)
    (case k16 => k_is)
    (case a17 => k_is)
    (case l17 => k_is)
    (case c17 => k_is)
    (case k17 => k_is)
    (case a18 => k_is)
    (case l18 => k_is)
    (case c18 => k_is)
    (case k18 => k_is)
    (case z0 => k_is)
    (case z1 => k_is)
    (case z2 => k_is)
    (case z3 => k_is)
    (case z4 => k_is)
    (case z5 => k_is)
    (case z6 => k_is)
    (case z7 => k_is)
    (case z8 => k_is)
    (case z9 => k_is)
    (case z10 => k_is)
    (case z11 => k_is)
    (case z12 => k_is)
#print axioms PySem.Challenge.cw_floorcurves_k62_words_of_templates_holds
