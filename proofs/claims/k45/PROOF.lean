import PyProof.Rows.All
import Wide.All
import OpenK.AllK
import Wide.FinOn
import PySem.Challenge.RW_floorcurves_k45_one_step_of_the_sums
import Lean
import PyProof.EqAt
import PyProof.EqKinds
import PyProof.TupleCall
local macro_rules | `(tactic| omega) => `(tactic| lia)
set_option pp.maxSteps 400
set_option Elab.async false
set_option linter.all false
set_option maxRecDepth 100000
set_option maxHeartbeats 4000000
-- CHANGE: your row's module here, as the last of these rows
set_option Elab.async false
set_option linter.all false
set_option maxRecDepth 100000
/-! THE HAND LAYER, for ints, bools, texts, own classes, LISTS and tuples (index, slices, in, append, pop ..), calls, loops. Paste it whole ahead of your own text; what your proof does not reach may be deleted. -/
namespace L2
open PySem PySem.Spec PyProof.Rows

/-- a key: an int or a str -/
abbrev Key := Sum Int Str
def keyIs : Key → Value → Bool
  | .inl k, v => Value.isInt k v
  | .inr x, v => Value.isStrOf x v
def keyH (w : World) : Key → Int
  | .inl k => hashInt k
  | .inr x => hashStr w x
theorem keyIs_shape : ∀ {k : Key} {v : Value}, keyIs k v = true → (∃ i t, k = Sum.inl i ∧ v = Value.int i t) ∨ (∃ x t, k = Sum.inr x ∧ v = Value.str x t)
  | .inl i, v, h => by
    obtain ⟨t, e⟩ := Value.isInt_shape (k := i) (v := v) h
    exact .inl ⟨i, t, rfl, e⟩
  | .inr x, v, h => by
    obtain ⟨t, e⟩ := Value.isStrOf_shape (x := x) (v := v) h
    exact .inr ⟨x, t, rfl, e⟩
theorem key_ll (a b : Int) : decide ((Sum.inl a : Key) = Sum.inl b) = (a == b) := by
  by_cases e : a = b
  · subst e; simp
  · have h : ¬ (Sum.inl a : Key) = Sum.inl b := fun q => e (Sum.inl.inj q)
    rw [decide_eq_false h]
    exact (beq_eq_false_iff_ne.mpr e).symm
theorem key_rr (a b : Str) : decide ((Sum.inr a : Key) = Sum.inr b) = decide (a = b) := by
  by_cases e : a = b
  · subst e; simp
  · have h : ¬ (Sum.inr a : Key) = Sum.inr b := fun q => e (Sum.inr.inj q)
    rw [decide_eq_false h, decide_eq_false e]
theorem key_lr (a : Int) (b : Str) : decide ((Sum.inl a : Key) = Sum.inr b) = false := decide_eq_false (fun q => nomatch q)
theorem key_rl (a : Str) (b : Int) : decide ((Sum.inr a : Key) = Sum.inl b) = false := decide_eq_false (fun q => nomatch q)

def mixKind (prog : Program) (w : World) : PySem.KeyKind prog w Key where
  is := keyIs
  hash := keyH w
  inj := fun v a b ha hb => by
    rcases keyIs_shape ha with ⟨i, t, rfl, rfl⟩ | ⟨x, t, rfl, rfl⟩
    · rcases keyIs_shape hb with ⟨j, u, rfl, e⟩ | ⟨y, u, rfl, e⟩
      · injection e with e1 _; rw [e1]
      · exact nomatch e
    · rcases keyIs_shape hb with ⟨j, u, rfl, e⟩ | ⟨y, u, rfl, e⟩
      · exact nomatch e
      · injection e with e1 _; rw [e1]
  byValue := fun k v h => by
    rcases keyIs_shape h with ⟨i, t, rfl, rfl⟩ | ⟨x, t, rfl, rfl⟩ <;> rfl
  pyHash := fun hv h => by
    rcases keyIs_shape hv with ⟨i, t, rfl, rfl⟩ | ⟨x, t, rfl, rfl⟩
    · exact wpAny_pyHash_int h
    · exact wpAny_pyHash_str h
  eqBool := fun hu hv h => by
    rcases keyIs_shape hu with ⟨i, t, rfl, rfl⟩ | ⟨x, t, rfl, rfl⟩
    · rcases keyIs_shape hv with ⟨j, u, rfl, rfl⟩ | ⟨y, u, rfl, rfl⟩
      · rw [key_ll] at h; exact wpAny_eqBool_int h
      · rw [key_lr] at h; exact SeqAt.EqAt.int_str i t y u _ _ _ _ h
    · rcases keyIs_shape hv with ⟨j, u, rfl, rfl⟩ | ⟨y, u, rfl, rfl⟩
      · rw [key_rl] at h; exact SeqAt.EqAt.str_int x t j u _ _ _ _ h
      · rw [key_rr] at h; exact wpAny_eqBool_str h
  «strs» := fun k x t v h => by
    rcases keyIs_shape h with ⟨i, u, rfl, e⟩ | ⟨y, u, rfl, e⟩
    · exact nomatch e
    · injection e with e1 _
      subst e1
      cases v <;> rfl

end L2

namespace L2
open PySem PySem.Spec PyProof.Rows

/-- a value, without the heap -/
inductive V where
  | non | bl (b : Bool) | int (i : Int) | str (x : Str) | byt (b : Array UInt8) | flt (b : UInt64) | ref (a : Addr) | ty (n : String)
  deriving DecidableEq

def RelV : V → Value → Prop
  | .non, u => u = Value.none
  | .bl b, u => u = Value.bool b
  | .int i, u => ∃ t, u = Value.int i t
  | .str x, u => ∃ t, u = Value.str x t
  | .byt b, u => ∃ t, u = Value.bytes b t
  | .flt b, u => ∃ t, u = Value.float b t
  | .ref a, u => u = Value.ref a
  | .ty n, u => u = Value.type n

abbrev Vals : List V → List Value → Prop := Paired RelV
theorem Vals.length {xs : List V} {us : List Value} (r : Vals xs us) : xs.length = us.length := Paired.length r
theorem Vals.get : ∀ {xs : List V} {us : List Value} {i : Nat} {x : V}, Vals xs us → xs[i]? = some x → ∃ u, us[i]? = some u ∧ RelV x u
  | _, _, _, _, .nil, e => by simp at e
  | _, _, 0, _, .cons r _, e => by simp at e; subst e; exact ⟨_, rfl, r⟩
  | _, _, i + 1, x, .cons _ t, e => by
    obtain ⟨u, h1, h2⟩ := Vals.get (i := i) (x := x) t (by simpa using e)
    exact ⟨u, by simpa using h1, h2⟩
theorem Vals.set {x : V} {u : Value} (r : RelV x u) : ∀ {xs : List V} {us : List Value} (i : Nat), Vals xs us → Vals (xs.set i x) (us.set i u)
  | _, _, _, .nil => .nil
  | _, _, 0, .cons _ t => .cons r t
  | _, _, i + 1, .cons q t => .cons q (Vals.set r i t)
theorem Vals.append : ∀ {xs ys : List V} {us ws : List Value}, Vals xs us → Vals ys ws → Vals (xs ++ ys) (us ++ ws)
  | _, _, _, _, .nil, s => s
  | _, _, _, _, .cons r t, s => .cons r (Vals.append t s)
theorem Vals.take : ∀ {xs : List V} {us : List Value} (n : Nat), Vals xs us → Vals (xs.take n) (us.take n)
  | _, _, 0, _ => .nil
  | _, _, _ + 1, .nil => .nil
  | _, _, n + 1, .cons r t => .cons r (Vals.take n t)
theorem Vals.drop : ∀ {xs : List V} {us : List Value} (n : Nat), Vals xs us → Vals (xs.drop n) (us.drop n)
  | _, _, 0, r => r
  | _, _, _ + 1, .nil => .nil
  | _, _, n + 1, .cons _ t => Vals.drop n t
def RelO : Option V → Option Value → Prop
  | some v, some u => RelV v u
  | none, none => True
  | _, _ => False
def KV {κ : Type} : List (κ × V) → List (κ × Value) → Prop := Paired fun (p : κ × V) (q : κ × Value) => p.1 = q.1 ∧ RelV p.2 q.2

/-- a key of a dict (00_mix): an int or a text -/
def kV : Key → V
  | .inl i => .int i
  | .inr x => .str x

/-- what stands at a tracked address -/
inductive HO where
  /-- a list -/
  | lst (xs : List V)
  /-- a tuple (never changes) -/
  | tup (xs : List V)
  /-- a dict whose keys are ints and texts; one whose keys are tuples of ints and texts (the empty one is both) -/
  | dK (kvs : List (Key × V)) | dT (kvs : List (List Key × V))
  /-- a set of ints: its members, its size -/
  | set (S : Int → Bool) (n : Nat)
  /-- an instance of the class at C, its dict at dx, its attributes -/
  | ins (C dx : Addr) (fs : List (Str × V))
  /-- the dict of the instance at x -/
  | own (x : Addr)
  /-- the dict of an exception -/
  | xd (fs : List (Str × V))
  /-- a bound method, f of x -/
  | met (f x : Addr)
  /-- a range object lo, lo + 1, .. below hi -/
  | rng (lo hi : Int)
  /-- a thing that is known to the object (the script; a dict while a loop walks it): read, never written while it is so -/
  | frz (o : Obj) (u : HO)
  /-- a code object's table -/
  | tbl (ps : Array Value)
  /-- any other thing, by what is true of its one object (a def of one's own: SetO a S n := HO.ext fun h => ..) -/
  | ext (φ : Heap → Prop)

abbrev Hp := Addr → Option HO
def upd (H : Hp) (a : Addr) (o : HO) : Hp := fun b => if b = a then some o else H b
theorem upd_same {H : Hp} {a : Addr} {o : HO} : upd H a o a = some o := by unfold upd; rw [if_pos rfl]
theorem upd_ne {H : Hp} {a b : Addr} {o : HO} (h : b ≠ a) : upd H a o b = H b := by unfold upd; rw [if_neg h]
theorem ne_of_none {H : Hp} {a b : Addr} {o : HO} (h : H a = some o) (h' : H b = none) : a ≠ b := by
  intro e; subst e; rw [h] at h'; cases h'

section
variable (P : Program) (w : World)
def ObjOk (H : Hp) (h : Heap) (a : Addr) : HO → Prop
  | .lst xs => xs.length ≤ sizeLine ∧ ∃ (its : List Value) (n : Nat), Vals xs its ∧ h.get? a = some { cls := .type "list", data := .seq its.toArray n }
  | .tup xs => xs.length ≤ sizeLine ∧ ∃ its : List Value, Vals xs its ∧ IsTup h a its.toArray
  | .dK kvs => kvs.length ≤ sizeLine ∧ (a == sysModules) = false ∧ ∃ vs, KV kvs vs ∧ h.DictOf (mixKind P w) a vs
  | .dT kvs => kvs.length ≤ sizeLine ∧ (a == sysModules) = false ∧ ∃ xs : List (List Key × Addr × Value),
      Paired (fun (p : List Key × V) (q : List Key × Addr × Value) => p.1 = q.1 ∧ H q.2.1 = some (.tup (p.1.map kV)) ∧ RelV p.2 q.2.2) kvs xs ∧
      ∃ o es ep, h.get? a = some o ∧ o.ExactDict ∧ o.data = .dict es ep ∧ es.toList = xs.map (entryOfKey (tupleKind (mixKind P w))) ∧ (xs.map (·.1)).Nodup
  | .set S n => h.SetOf (intKind P w) a S n
  | .ins C dx fs => H dx = some (.own a) ∧ fs.length ≤ 1000 ∧ dx ≠ a ∧ h.get? a = some (PySem.W.instObj C dx) ∧
      ∃ mA, h.Ns1 dx mA ∧ (∀ f, RelO (fs.lookup f) (mA f)) ∧ PySem.Within mA (fs.map (·.1))
  | .own _ => ∃ o, h.get? a = some o
  | .xd fs => ∃ mA, h.Ns1 a mA ∧ ∀ f, RelO (fs.lookup f) (mA f)
  | .rng lo hi => ∃ t u v, h.get? a = some { cls := .type "range", data := .fields #[.int lo t, .int hi u, .int 1 v] }
  | .frz o u => h.get? a = some o ∧ ObjOk H h a u
  | .tbl ps => h.get? a = some { cls := .none, data := .fields ps }
  | .met f x => h.get? a = some (PySem.W.methodObj (.ref f) (.ref x))
  | .ext φ => φ h ∧ (∃ o, h.get? a = some o) ∧ ∀ h1 h2 : Heap, φ h1 → (∀ o, h1.get? a = some o → h2.get? a = some o) → φ h2
/-- the abstract heap is held -/
def HOk (H : Hp) (h : Heap) : Prop := ∀ a o, H a = some o → ObjOk P w H h a o
end

section
variable {P : Program} {w : World} {H H' : Hp} {h h' : Heap} {a : Addr} {o : HO}
theorem ObjOk.lt (x : ObjOk P w H h a o) : a < h.objs.size := by
  cases o with
  | lst xs => obtain ⟨_, _, _, _, e⟩ := x; exact Heap.lt_size e
  | tup xs => obtain ⟨_, _, _, p⟩ := x; exact p.lt
  | dK kvs => obtain ⟨_, _, _, _, o, _, _, e, _⟩ := x; exact Heap.lt_size e
  | dT kvs => obtain ⟨_, _, _, _, o, _, _, e, _⟩ := x; exact Heap.lt_size e
  | set S n => obtain ⟨o, _, _, _, e, _⟩ := x; exact Heap.lt_size e
  | ins C dx fs => obtain ⟨_, _, _, e, _⟩ := x; exact Heap.lt_size e
  | own y => obtain ⟨_, e⟩ := x; exact Heap.lt_size e
  | xd fs => obtain ⟨_, ⟨_, _, _, e, _⟩, _⟩ := x; exact Heap.lt_size e
  | rng lo hi => obtain ⟨_, _, _, e⟩ := x; exact Heap.lt_size e
  | frz ob u => obtain ⟨e, _⟩ := x; exact Heap.lt_size e
  | tbl ps => exact Heap.lt_size (show h.get? a = some _ from x)
  | met f y => exact Heap.lt_size (show h.get? a = some _ from x)
  | ext φ => obtain ⟨_, ⟨_, e⟩, _⟩ := x; exact Heap.lt_size e
theorem Paired.mapP {α β : Type} {F G : α → β → Prop} : ∀ {l₁ : List α} {l₂ : List β}, Paired F l₁ l₂ → (∀ a b, F a b → G a b) → Paired G l₁ l₂
  | _, _, .nil, _ => .nil
  | _, _, .cons r t, f => .cons (f _ _ r) (Paired.mapP t f)
/-- what an object's description leans on: its own object, its own dict, the tuples -/
theorem ObjOk.stay (x : ObjOk P w H h a o) (k : ∀ b u, (b = a ∨ H b = some (.own a)) → h.get? b = some u → h'.get? b = some u)
    (ho : ∀ b, H b = some (.own a) → H' b = some (.own a)) (ht : ∀ b xs, H b = some (.tup xs) → H' b = some (.tup xs)) : ObjOk P w H' h' a o := by
  induction o with
  | lst xs => obtain ⟨z, its, n, r, e⟩ := x; exact ⟨z, its, n, r, k _ _ (.inl rfl) e⟩
  | tup xs => obtain ⟨z, its, r, ob, e, c⟩ := x; exact ⟨z, its, r, ob, k _ _ (.inl rfl) e, c⟩
  | dK kvs => obtain ⟨z, y, vs, r, ob, es, ep, e, c⟩ := x; exact ⟨z, y, vs, r, ob, es, ep, k _ _ (.inl rfl) e, c⟩
  | dT kvs =>
    obtain ⟨z, y, xs, r, ob, es, ep, e, c⟩ := x
    exact ⟨z, y, xs, Paired.mapP r fun p q z => ⟨z.1, ht _ _ z.2.1, z.2.2⟩, ob, es, ep, k _ _ (.inl rfl) e, c⟩
  | set S n => obtain ⟨ob, es, ep, t, e, c⟩ := x; exact ⟨ob, es, ep, t, k _ _ (.inl rfl) e, c⟩
  | ins C dx fs =>
    obtain ⟨d, z, ne, e, mA, ⟨od, es, ep, e2, c⟩, r⟩ := x
    exact ⟨ho _ d, z, ne, k _ _ (.inl rfl) e, mA, ⟨od, es, ep, k _ _ (.inr d) e2, c⟩, r⟩
  | own y => obtain ⟨ob, e⟩ := x; exact ⟨ob, k _ _ (.inl rfl) e⟩
  | xd fs => obtain ⟨mA, ⟨od, es, ep, e, c⟩, r⟩ := x; exact ⟨mA, ⟨od, es, ep, k _ _ (.inl rfl) e, c⟩, r⟩
  | rng lo hi => obtain ⟨t, u, v, e⟩ := x; exact ⟨t, u, v, k _ _ (.inl rfl) e⟩
  | frz ob u ih => obtain ⟨e, q⟩ := x; exact ⟨k _ _ (.inl rfl) e, ih q⟩
  | tbl ps =>
    have e : h.get? a = some { cls := .none, data := .fields ps } := x
    show h'.get? a = some { cls := .none, data := .fields ps }
    exact k a _ (.inl rfl) e
  | met f y =>
    have e : h.get? a = some (PySem.W.methodObj (.ref f) (.ref y)) := x
    show h'.get? a = some (PySem.W.methodObj (.ref f) (.ref y))
    exact k a _ (.inl rfl) e
  | ext φ => obtain ⟨p, ⟨o, e⟩, st⟩ := x; exact ⟨st _ _ p fun o q => k _ _ (.inl rfl) q, ⟨o, k _ _ (.inl rfl) e⟩, st⟩
theorem HOk.lt (x : HOk P w H h) (e : H a = some o) : a < h.objs.size := (x a o e).lt
theorem HOk.fresh (x : HOk P w H h) (e : h.objs.size ≤ a) : H a = none := by
  cases q : H a with
  | none => rfl
  | some u => exact absurd (Nat.lt_of_lt_of_le (x.lt q) e) (Nat.lt_irrefl _)
/-- every object of the heap is kept -/
theorem HOk.kept (x : HOk P w H h) (k : ∀ b u, h.get? b = some u → h'.get? b = some u) : HOk P w H h' := fun a o e =>
  (x a o e).stay (fun b u _ q => k b u q) (fun _ q => q) fun _ _ q => q
/-- a new object is laid and tracked -/
theorem HOk.laid (x : HOk P w H h) (k : ∀ b u, h.get? b = some u → h'.get? b = some u) (hp : h.objs.size ≤ a) (new : ObjOk P w (upd H a o) h' a o) : HOk P w (upd H a o) h' := fun b u e => by
  have hn := x.fresh hp
  by_cases hb : b = a
  · subst hb; rw [upd_same] at e; cases e; exact new
  · rw [upd_ne hb] at e
    exact (x b u e).stay (fun c v _ q => k c v q) (fun c q => by rw [upd_ne (ne_of_none q hn)]; exact q) fun c xs q => by rw [upd_ne (ne_of_none q hn)]; exact q
end

/-- what may be read as u: it is u, or a known u -/
def Rd (H : Hp) (a : Addr) (u : HO) : Prop := H a = some u ∨ ∃ o, H a = some (.frz o u)
theorem Rd.ok {P : Program} {w : World} {H : Hp} {h : Heap} {a : Addr} {u : HO} (r : Rd H a u) (x : HOk P w H h) : ObjOk P w H h a u := by
  rcases r with r | ⟨o, r⟩
  · exact x a u r
  · obtain ⟨_, q⟩ := x a _ r
    exact q
/-- what may be written -/
def Mut : Option HO → Prop
  | some (.lst _) => True
  | some (.dK _) => True
  | some (.dT _) => True
  | some (.set _ _) => True
  | some (.ins _ _ _) => True
  | some (.ext _) => True
  | _ => False
section
variable {P : Program} {w : World} {H : Hp} {h h' : Heap} {x e : Addr} {o' : HO}
/-- the object at e is changed: x itself, or the dict of the instance x -/
theorem HOk.write (ok : HOk P w H h) (mu : Mut (H x)) (he : e = x ∨ H e = some (.own x)) (k : ∀ b u, b ≠ e → h.get? b = some u → h'.get? b = some u) (heo : ∃ u, h'.get? e = some u)
    (new : ObjOk P w (upd H x o') h' x o') : HOk P w (upd H x o') h' := fun b u q => by
  have nown : ∀ c y, H c = some (.own y) → c ≠ x := fun c y r z => by subst z; rw [r] at mu; exact mu
  have ntup : ∀ c xs, H c = some (.tup xs) → c ≠ x := fun c xs r z => by subst z; rw [r] at mu; exact mu
  by_cases hb : b = x
  · subst hb; rw [upd_same] at q; cases q; exact new
  · rw [upd_ne hb] at q
    by_cases hbe : b = e
    · have q' : H b = some (.own x) := by
        rcases he with z | z
        · exact absurd (hbe.trans z) hb
        · rw [hbe]; exact z
      rw [q] at q'; cases q'
      obtain ⟨v, hv⟩ := heo
      exact ⟨v, by rw [hbe]; exact hv⟩
    · refine (ok b u q).stay (fun c v hc r => k c v ?_ r) (fun c r => by rw [upd_ne (nown c b r)]; exact r) fun c xs r => by rw [upd_ne (ntup c xs r)]; exact r
      rcases hc with rfl | hc
      · exact hbe
      · rintro rfl
        rcases he with z | z
        · exact nown c b hc z
        · rw [hc] at z; cases z; exact hb rfl
end

/-! ### kept unless tracked; of the frames at fs (the callers') the slots may change (an exception that passes writes there); of the records at ex (iterators) nothing is said -/
structure Un (fs ex : List Addr) (H H' : Hp) (h h' : Heap) : Prop where
  keep : ∀ b o, h.get? b = some o → H b = none → b ∉ fs → b ∉ ex → h'.get? b = some o
  slot : ∀ b o, h.get? b = some o → H b = none → b ∈ fs → b ∉ ex → ∃ sl, h'.get? b = some { o with slots := sl }
  free : ∀ b o, h.get? b = some o → H b = none → b ∉ ex → H' b = none
  there : ∀ b o, h.get? b = some o → b ∉ ex → ∃ o', h'.get? b = some o'
  tups : ∀ b xs, H b = some (.tup xs) → H' b = some (.tup xs)
  frzs : ∀ b o u, H b = some (.frz o u) → H' b = some (.frz o u)
  tbls : ∀ b ps, H b = some (.tbl ps) → ∃ more, H' b = some (.tbl (ps ++ more))
section
variable {fs fs' ex ex' : List Addr} {H H1 H2 : Hp} {h h1 h2 h' : Heap} {a x e : Addr} {o : HO}
theorem Un.any (u : Un fs ex H H1 h h1) {b : Addr} {ob : Obj} (q : h.get? b = some ob) (n : H b = none) (hx : b ∉ ex) : ∃ sl, h1.get? b = some { ob with slots := sl } := by
  by_cases hb : b ∈ fs
  · exact u.slot b ob q n hb hx
  · exact ⟨ob.slots, u.keep b ob q n hb hx⟩
theorem Un.kept (k : ∀ b u, h.get? b = some u → h'.get? b = some u) : Un fs ex H H h h' :=
  ⟨fun b ob q _ _ _ => k b ob q, fun b ob q _ _ _ => ⟨ob.slots, k b ob q⟩, fun _ _ _ n _ => n, fun b ob q _ => ⟨ob, k b ob q⟩, fun _ _ q => q, fun _ _ _ q => q, fun _ ps q => ⟨#[], by rw [q]; simp⟩⟩
theorem Un.refl : Un fs ex H H h h := Un.kept fun _ _ q => q
theorem Un.laid (k : ∀ b u, h.get? b = some u → h'.get? b = some u) (hp : h.objs.size ≤ a) (hn : H a = none) : Un fs ex H (upd H a o) h h' where
  keep := fun b u q _ _ _ => k b u q
  slot := fun b u q _ _ _ => ⟨u.slots, k b u q⟩
  free := fun b u q n _ => by rw [upd_ne (Nat.ne_of_lt (Nat.lt_of_lt_of_le (Heap.lt_size q) hp))]; exact n
  there := fun b u q _ => ⟨u, k b u q⟩
  tups := fun b xs q => by rw [upd_ne (ne_of_none q hn)]; exact q
  frzs := fun b u xs q => by rw [upd_ne (ne_of_none q hn)]; exact q
  tbls := fun b ps q => ⟨#[], by rw [upd_ne (ne_of_none q hn), q]; simp⟩
theorem Un.write (mu : Mut (H x)) (he : e = x ∨ H e = some (.own x)) (k : ∀ b u, b ≠ e → h.get? b = some u → h'.get? b = some u) (heo : ∃ u, h'.get? e = some u) : Un fs ex H (upd H x o) h h' := by
  have hx : ∀ b, H b = none → b ≠ x := fun b n z => by subst z; rw [n] at mu; exact mu
  have hb : ∀ b, H b = none → b ≠ e := fun b n z => by
    subst z
    rcases he with r | r
    · exact hx b n r
    · rw [n] at r; cases r
  have hm : ∀ b u, H b = some u → ¬ Mut (some u) → b ≠ x := fun b u q nm z => by subst z; rw [q] at mu; exact nm mu
  refine ⟨fun b u q n _ _ => k b u (hb b n) q, fun b u q n _ _ => ⟨u.slots, k b u (hb b n) q⟩, fun b u q n _ => by rw [upd_ne (hx b n)]; exact n, fun b u q _ => ?_,
    fun b xs q => by rw [upd_ne (hm b _ q fun z => z)]; exact q, fun b u xs q => by rw [upd_ne (hm b _ q fun z => z)]; exact q, fun b ps q => ⟨#[], by rw [upd_ne (hm b _ q fun z => z), q]; simp⟩⟩
  by_cases hbe : b = e
  · subst hbe; exact heo
  · exact ⟨u, k b u hbe q⟩
end

/-! ### the heap without what is tracked -/
def trk (h : Heap) (H : Hp) : List Addr := (List.range h.objs.size).filter fun a => (H a).isSome
def hidT (h : Heap) (H : Hp) : Heap := PySem.W.hideAll h (trk h H)
theorem hidT_size (h : Heap) (H : Hp) : (hidT h H).objs.size = h.objs.size := PySem.W.hideAll_size _ _
theorem hidT_get {h : Heap} {H : Hp} {b : Addr} {o : Obj} (e : h.get? b = some o) (n : H b = none) : (hidT h H).get? b = some o :=
  PySem.W.hideAll_get _ e fun hm => by
    have q : (H b).isSome = true := (List.mem_filter.mp hm).2
    rw [n] at q; simp at q
theorem of_hidT {h : Heap} {H : Hp} {b : Addr} {o : Obj} (e : (hidT h H).get? b = some o) : h.get? b = some o ∧ H b = none := by
  have e' : h.get? b = some o := PySem.W.of_hideAll (trk h H) e
  refine ⟨e', ?_⟩
  cases q : H b with
  | none => rfl
  | some x =>
    have hm : b ∈ trk h H := List.mem_filter.mpr ⟨List.mem_range.mpr (Heap.lt_size e'), by simp [q]⟩
    have z : (hidT h H).get? b = none := PySem.W.hideAll_none (trk h H) hm
    rw [z] at e; cases e

/-! ### OpenK's ledger, filled with every new object but one -/
def allNews (g h : Heap) (L : Addr) : List (Addr × Obj) := (List.range h.objs.size).filterMap fun a => if a = L ∨ (g.get? a).isSome = true then none else (h.get? a).map fun o => (a, o)
def rest (g h : Heap) (L d : Addr) : List (Addr × Obj) := (allNews g h L).filter fun p => decide (p.1 ≠ d)
end L2

namespace L2
open PySem PySem.Spec PyProof.Rows

/-- the module's facts, over the base: the heap at the law's entry without what is tracked there -/
structure Mod (K : PySem.W.Frag) (mg : Str → Option Value) (base : Heap) : Prop where
  kin : K.In base
  glob : base.Ns mainGlobals mg
  blt : ∃ mb, base.Ns builtinsNs mb ∧ ∀ x : Str, x ≠ "__name__" → mb x = bootBuiltins x
  nolimit : base.NoLimit

/-- the context: a def's body (or a comprehension's block) running. base: fixed through the whole law; s₀, H₀: the entry; outer: the frames whose slots others may change (a def's callers); stack: all frames that run;
   ex: iterators that were made ahead of the entry and are walked here (a comprehension's); fn: the names whose cells were made at the entry (a def: all; a comprehension's block: its own); calm: not within an except suite; pn: pins that every state bears; xe: what is wanted of an exception that leaves the code -/
structure Cx where
  prog : Program
  w : World
  K : PySem.W.Frag
  mg : Str → Option Value
  base : Heap
  A : Around
  N : List Str
  s₀ : Shared
  H₀ : Hp
  env : Env
  outer : List Env
  stack : List Env
  ex : List Addr
  fn : Str → Bool
  calm : Bool
  pn : List (Addr × Obj)
  xe : Value → Shared → Prop
/-- the callers' frames -/
def frs (l : List Env) : List Addr := l.filterMap (·.frame)
abbrev Cx.fs (X : Cx) : List Addr := frs X.outer

def Vis (sc : Scope) (x : Str) : Prop := sc.names.lookup x = some .local ∨ sc.names.lookup x = some .cell ∨ sc.names.lookup x = some .free
def Loc (sc : Scope) (x : Str) : Prop := sc.names.lookup x = some .local ∨ sc.names.lookup x = some .cell
def Look (env : Env) (h : Heap) (m : Str → Option Value) (x : Str) (u : Value) : Prop :=
  (env.kindOf x = some .local ∧ m x = some u) ∨ ((env.kindOf x = some .cell ∨ env.kindOf x = some .free) ∧ ∃ c, env.cells.lookup x = some c ∧ h.IsCell c (some u))

structure Cx.Ok (X : Cx) : Prop where
  mod : Mod X.K X.mg X.base
  kind : X.env.scope.kind = .function
  glob : X.env.globals = mainGlobals
  blt : X.env.builtins = builtinsNs
  above : X.s₀.heap.objs.size ≤ X.env.locals
  inj : ∀ x y c, X.env.cells.lookup x = some c → X.env.cells.lookup y = some c → x = y
  has : ∀ x, (X.env.kindOf x = some .cell ∨ X.env.kindOf x = some .free) → ∃ c, X.env.cells.lookup x = some c
  cab : ∀ x c, X.fn x = true → X.env.cells.lookup x = some c → X.s₀.heap.objs.size ≤ c
  hd : X.calm = true → X.A.handled = none
  frames : X.A.frames = some X.stack
  stk : X.stack = X.outer ∨ (X.stack = X.env :: X.outer ∧ X.env.frame = some X.env.locals)
  exf : ∀ b ∈ X.ex, b ≠ X.env.locals ∧ ∀ x c, X.env.cells.lookup x = some c → c ≠ b
  bs : ∀ b o, X.base.get? b = some o → X.s₀.heap.get? b = some o ∧ X.H₀ b = none
  bsz : X.base.objs.size ≤ X.s₀.heap.objs.size
  noex : ∀ b o, X.base.get? b = some o → b ∉ X.ex
  exfs : ∀ b ∈ X.ex, b ∉ X.fs
  funs : X.s₀.heap.FunFrames X.base X.outer
  frf : ∀ b ∈ X.fs, X.H₀ b = none

structure Inv (X : Cx) (pins : List (Addr × Obj)) (σ : List (Option V)) (H : Hp) (s : Shared) : Prop where
  ok : X.Ok
  os : s.os = X.s₀.os
  bare : AllBare s.gens
  base : Un X.fs X.ex X.H₀ H X.s₀.heap s.heap
  loc : ∃ m, s.heap.Ns X.env.locals m ∧ ∀ (i : Nat) (x : Str) (v : V), X.N[i]? = some x → σ[i]? = some (some v) → Vis X.env.scope x → ∃ u, RelV v u ∧ Look X.env s.heap m x u
  cell : ∀ x c, X.env.cells.lookup x = some c → ∃ v, s.heap.IsCell c v
  free : H X.env.locals = none
  freeC : ∀ x c, X.env.cells.lookup x = some c → H c = none
  pin : ∀ p ∈ X.pn ++ pins, s.heap.get? p.1 = some p.2 ∧ H p.1 = none ∧ p.1 ≠ X.env.locals ∧ p.1 ∉ X.fs ∧ ∀ v, p.2.data ≠ .cell v
  hok : HOk X.prog X.w H s.heap
  len : σ.length = X.N.length

section
variable {X : Cx} {pins : List (Addr × Obj)} {σ : List (Option V)} {H H' : Hp} {s : Shared} {h' : Heap}

theorem Cx.Ok.nofr (ok : X.Ok) {b : Addr} {o : Obj} (e : X.base.get? b = some o) : b ∉ X.fs := fun hb => by
  have := (ok.funs.mem hb).1
  rw [e] at this; cases this
theorem Inv.bs (I : Inv X pins σ H s) : ∀ b o, X.base.get? b = some o → s.heap.get? b = some o ∧ H b = none := fun b o e =>
  ⟨I.base.keep b o (I.ok.bs b o e).1 (I.ok.bs b o e).2 (I.ok.nofr e) (I.ok.noex b o e), I.base.free b o (I.ok.bs b o e).1 (I.ok.bs b o e).2 (I.ok.noex b o e)⟩
theorem Inv.bk (I : Inv X pins σ H s) : ∀ b o, X.base.get? b = some o → s.heap.get? b = some o := fun b o e => (I.bs b o e).1
theorem Inv.mod (I : Inv X pins σ H s) : Mod X.K X.mg X.base := I.ok.mod
theorem Inv.kIn (I : Inv X pins σ H s) : X.K.In s.heap := I.ok.mod.kin.keeps I.bk
theorem Inv.lt (I : Inv X pins σ H s) : X.env.locals < s.heap.objs.size := let ⟨_, hn, _⟩ := I.loc; hn.lt
theorem Inv.sz (I : Inv X pins σ H s) : X.s₀.heap.objs.size ≤ s.heap.objs.size := Nat.le_trans I.ok.above (Nat.le_of_lt I.lt)
theorem Inv.nofs (I : Inv X pins σ H s) {a : Addr} (h : s.heap.objs.size ≤ a) : a ∉ X.fs := fun hb => by
  obtain ⟨_, o, ho, _⟩ := I.ok.funs.mem hb
  exact absurd (Nat.lt_of_lt_of_le (Heap.lt_size ho) (Nat.le_trans I.sz h)) (Nat.lt_irrefl _)
theorem Inv.cne (I : Inv X pins σ H s) : ∀ x c, X.env.cells.lookup x = some c → c ≠ X.env.locals := fun x c e z => by
  obtain ⟨v, o, ho, hd⟩ := I.cell x c e
  obtain ⟨m, ⟨o', es, ep, ho', hd', _⟩, _⟩ := I.loc
  rw [z, ho'] at ho; cases ho; rw [hd'] at hd; cases hd
theorem Inv.funs (I : Inv X pins σ H s) : s.heap.FunFrames X.base X.outer := by
  have all : ∀ (l : List Env), (∀ b ∈ frs l, b ∈ X.fs) → X.s₀.heap.FunFrames X.base l → s.heap.FunFrames X.base l := by
    intro l
    induction l with
    | nil => intro _ _; trivial
    | cons env r ih =>
      intro hs hl
      obtain ⟨hk, ⟨L, o, hf, hn, ho, hd⟩, hr⟩ := hl
      have hL : L ∈ X.fs := hs L (by unfold frs; rw [List.filterMap_cons, hf]; exact List.mem_cons_self)
      obtain ⟨sl, e⟩ := I.base.slot L o ho (I.ok.frf L hL) hL fun z => I.ok.exfs L z hL
      exact ⟨hk, ⟨L, _, hf, hn, e, hd⟩, ih (fun b hb => hs b (by unfold frs; rw [List.filterMap_cons, hf]; exact List.mem_cons_of_mem _ hb)) hr⟩
  exact all X.outer (fun _ hb => hb) I.ok.funs

/-- the frames that run, for a call -/
theorem Inv.stack (I : Inv X pins σ H s) : s.heap.FunFrames X.base X.stack := by
  rcases I.ok.stk with e | ⟨e, hf⟩
  · rw [e]; exact I.funs
  · rw [e]
    obtain ⟨m, hn, _⟩ := I.loc
    refine .cons (by rw [I.ok.kind]; decide) hf hn ?_ I.funs
    exact Heap.get?_none_of_le (Nat.le_trans I.ok.bsz I.ok.above)
theorem Inv.stkSub (I : Inv X pins σ H s) : ∀ b ∈ frs X.stack, b ∈ X.env.locals :: X.fs := fun b hb => by
  rcases I.ok.stk with e | ⟨e, hf⟩
  · rw [e] at hb; exact List.mem_cons_of_mem _ hb
  · rw [e] at hb
    unfold frs at hb
    rw [List.filterMap_cons, hf] at hb
    exact hb
theorem Inv.stkFree (I : Inv X pins σ H s) : ∀ b ∈ frs X.stack, H b = none := fun b hb => by
  rcases List.mem_cons.mp (I.stkSub b hb) with e | hb
  · rw [e]; exact I.free
  · obtain ⟨_, o, ho, _⟩ := I.ok.funs.mem hb
    exact I.base.free b o ho (I.ok.frf b hb) fun z => I.ok.exfs b z hb

/-- THE STEP: the untracked objects but the frame and the records at ch are kept (the callers' frames up to slots), the frame's map is kept, the new abstract heap is held -/
theorem Inv.step {g' : Array GenState} {t' : Nat} {d' : Drawn} {ch : List Addr} (I : Inv X pins σ H s)
    (hch : ∀ b ∈ ch, (b ∈ X.ex ∨ X.s₀.heap.objs.size ≤ b) ∧ b ≠ X.env.locals ∧ (∀ x c, X.env.cells.lookup x = some c → c ≠ b) ∧ ∀ p ∈ X.pn ++ pins, p.1 ≠ b)
    (keep : ∀ b o, b ≠ X.env.locals → b ∉ X.fs → b ∉ ch → s.heap.get? b = some o → H b = none → h'.get? b = some o)
    (slot : ∀ b o, b ≠ X.env.locals → b ∈ X.fs → b ∉ ch → s.heap.get? b = some o → H b = none → ∃ sl, h'.get? b = some { o with slots := sl }) (free : ∀ b o, b ∉ ch → s.heap.get? b = some o → H b = none → H' b = none)
    (there : ∀ b o, b ∉ ch → s.heap.get? b = some o → ∃ o', h'.get? b = some o')
    (tups : ∀ b xs, H b = some (.tup xs) → H' b = some (.tup xs)) (frzs : ∀ b o u, H b = some (.frz o u) → H' b = some (.frz o u)) (tbls : ∀ b ps, H b = some (.tbl ps) → ∃ more, H' b = some (.tbl (ps ++ more)))
    (ns : ∀ m, s.heap.Ns X.env.locals m → h'.Ns X.env.locals m) (hok : HOk X.prog X.w H' h') (hg : AllBare g') :
    Inv X pins σ H' { s with heap := h', gens := g', drawn := d', toks := t' } := by
  have neL : ∀ b o, X.s₀.heap.get? b = some o → b ≠ X.env.locals := fun b o e => Nat.ne_of_lt (Nat.lt_of_lt_of_le (Heap.lt_size e) I.ok.above)
  have neC : ∀ b o, X.s₀.heap.get? b = some o → b ∉ X.ex → b ∉ ch := fun b o e hx hb => by
    rcases (hch b hb).1 with z | z
    · exact hx z
    · exact absurd (Nat.lt_of_lt_of_le (Heap.lt_size e) z) (Nat.lt_irrefl _)
  have cellK : ∀ x c, X.env.cells.lookup x = some c → ∀ v, s.heap.IsCell c v → h'.IsCell c v := fun x c e v ⟨o, ho, hd⟩ => by
    have nch : c ∉ ch := fun z => (hch c z).2.2.1 x c e rfl
    by_cases hc : c ∈ X.fs
    · obtain ⟨sl, q⟩ := slot c o (I.cne x c e) hc nch ho (I.freeC x c e)
      exact ⟨_, q, hd⟩
    · exact ⟨o, keep c o (I.cne x c e) hc nch ho (I.freeC x c e), hd⟩
  refine ⟨I.ok, I.os, hg, ⟨fun b o e n hb hx => ?_, fun b o e n hb hx => ?_, fun b o e n hx => ?_, fun b o e hx => ?_, fun b xs e => tups b xs (I.base.tups b xs e), fun b o xs e => frzs b o xs (I.base.frzs b o xs e), fun b ps e => ?_⟩, ?_, fun x c e => ?_, ?_, fun x c e => ?_, fun p hp => ?_, hok, I.len⟩
  · exact keep b o (neL b o e) hb (neC b o e hx) (I.base.keep b o e n hb hx) (I.base.free b o e n hx)
  · obtain ⟨sl, e1⟩ := I.base.slot b o e n hb hx
    obtain ⟨sl', e2⟩ := slot b _ (neL b o e) hb (neC b o e hx) e1 (I.base.free b o e n hx)
    exact ⟨sl', e2⟩
  · obtain ⟨o', e1⟩ := I.base.there b o e hx
    exact free b o' (neC b o e hx) e1 (I.base.free b o e n hx)
  · obtain ⟨o', e1⟩ := I.base.there b o e hx
    exact there b o' (neC b o e hx) e1
  · obtain ⟨m1, e1⟩ := I.base.tbls b ps e
    obtain ⟨m2, e2⟩ := tbls b _ e1
    exact ⟨m1 ++ m2, by rw [e2, Array.append_assoc]⟩
  · obtain ⟨m, hn, hl⟩ := I.loc
    refine ⟨m, ns m hn, fun i x v e1 e2 e3 => ?_⟩
    obtain ⟨u, r, l⟩ := hl i x v e1 e2 e3
    refine ⟨u, r, ?_⟩
    rcases l with l | ⟨k, c, e, z⟩
    · exact .inl l
    · exact .inr ⟨k, c, e, cellK x c e _ z⟩
  · obtain ⟨v, z⟩ := I.cell x c e
    exact ⟨v, cellK x c e v z⟩
  · obtain ⟨m, ⟨o, _, _, ho, _⟩, _⟩ := I.loc
    exact free _ o (fun z => (hch _ z).2.1 rfl) ho I.free
  · obtain ⟨v, o, ho, hd⟩ := I.cell x c e
    exact free c o (fun z => (hch c z).2.2.1 x c e rfl) ho (I.freeC x c e)
  · obtain ⟨e, n, ne, nf, d⟩ := I.pin p hp
    have nch : p.1 ∉ ch := fun z => (hch p.1 z).2.2.2 p hp rfl
    exact ⟨keep p.1 p.2 ne nf nch e n, free p.1 p.2 nch e n, ne, nf, d⟩
/-- .. where the frame's own object is kept too -/
theorem Inv.un {t' : Nat} (I : Inv X pins σ H s) (u : Un X.fs [] H H' s.heap h') (hok : HOk X.prog X.w H' h') : Inv X pins σ H' { s with heap := h', toks := t' } := by
  obtain ⟨m, ⟨o, es, ep, ho, r⟩, _⟩ := id I.loc
  obtain ⟨sl, hL⟩ := u.any ho I.free (by simp)
  exact I.step (g' := s.gens) (d' := s.drawn) (ch := []) (fun _ z => nomatch z) (fun b o _ hb _ e n => u.keep b o e n hb (by simp)) (fun b o _ hb _ e n => u.slot b o e n hb (by simp)) (fun b o _ e n => u.free b o e n (by simp)) (fun b o _ e => u.there b o e (by simp)) u.tups u.frzs u.tbls (fun m' hm => by
    obtain ⟨o', es', ep', ho', r'⟩ := hm
    rw [ho] at ho'; cases ho'
    exact ⟨_, es', ep', hL, r'⟩) hok I.bare
/-- behind a call (or a comprehension's block): the slots of this frame may have changed too, the records at ch may have turned -/
theorem Inv.call {g' : Array GenState} {t' : Nat} {d' : Drawn} {ch : List Addr} (I : Inv X pins σ H s) (u : Un (frs X.stack) ch H H' s.heap h') (hok : HOk X.prog X.w H' h') (hg : AllBare g')
    (hch : ∀ b ∈ ch, (b ∈ X.ex ∨ X.s₀.heap.objs.size ≤ b) ∧ b ≠ X.env.locals ∧ (∀ x c, X.env.cells.lookup x = some c → c ≠ b) ∧ ∀ p ∈ X.pn ++ pins, p.1 ≠ b) :
    Inv X pins σ H' { s with heap := h', gens := g', drawn := d', toks := t' } := by
  obtain ⟨m, ⟨o, es, ep, ho, r⟩, _⟩ := id I.loc
  obtain ⟨sl, hL⟩ := u.any ho I.free fun z => (hch _ z).2.1 rfl
  exact I.step (ch := ch) hch (fun b o hL hb hc e n => u.keep b o e n (fun z => (List.mem_cons.mp (I.stkSub b z)).elim hL hb) hc) (fun b o _ _ hc e n => u.any e n hc) (fun b o hc e n => u.free b o e n hc) (fun b o hc e => u.there b o e hc) u.tups u.frzs u.tbls (fun m' hm => by
    obtain ⟨o', es', ep', ho', r'⟩ := hm
    rw [ho] at ho'; cases ho'
    exact ⟨_, es', ep', hL, r'⟩) hok hg
/-- an untracked record of ours (an iterator) has turned -/
theorem Inv.turned {t' : Nat} {it : Addr} (I : Inv X pins σ H s) (k : ∀ b o, b ≠ it → s.heap.get? b = some o → h'.get? b = some o) (hn : H it = none) (hL : it ≠ X.env.locals)
    (h1 : it ∈ X.ex ∨ X.s₀.heap.objs.size ≤ it) (h2 : ∀ x c, X.env.cells.lookup x = some c → c ≠ it) (h3 : ∀ p ∈ X.pn ++ pins, p.1 ≠ it) : Inv X pins σ H { s with heap := h', toks := t' } := by
  have nit : ∀ b u, H b = some u → b ≠ it := fun b u e z => by rw [z, hn] at e; cases e
  refine I.step (g' := s.gens) (d' := s.drawn) (ch := [it]) (fun b hb => ?_) (fun b o _ _ hc e _ => k b o (fun z => hc (by simp [z])) e) (fun b o _ _ hc e _ => ⟨o.slots, k b o (fun z => hc (by simp [z])) e⟩) (fun _ _ _ _ n => n)
    (fun b o hc e => ⟨o, k b o (fun z => hc (by simp [z])) e⟩) (fun _ _ e => e) (fun _ _ _ e => e) (fun b ps e => ⟨#[], by rw [e]; simp⟩) (fun m hm => ?_) (fun b u e => ?_) I.bare
  · have e : b = it := by simpa using hb
    subst e
    exact ⟨h1, hL, h2, h3⟩
  · obtain ⟨o, es, ep, ho, r⟩ := hm
    exact ⟨o, es, ep, k _ o (Ne.symm hL) ho, r⟩
  · refine (I.hok b u e).stay (fun c v hc q => k c v ?_ q) (fun _ q => q) fun _ _ q => q
    rcases hc with z | z
    · rw [z]; exact nit b u e
    · exact nit c _ z
theorem Inv.tok (I : Inv X pins σ H s) (t : Nat) : Inv X pins σ H { s with toks := t } := I.un (h' := s.heap) (t' := t) Un.refl I.hok
/-- all objects kept -/
theorem Inv.kept {t' : Nat} (I : Inv X pins σ H s) (k : ∀ b u, s.heap.get? b = some u → h'.get? b = some u) : Inv X pins σ H { s with heap := h', toks := t' } := I.un (Un.kept k) (I.hok.kept k)
/-- a new object laid and tracked -/
theorem Inv.laid {a : Addr} {o : HO} {t' : Nat} (I : Inv X pins σ H s) (k : ∀ b u, s.heap.get? b = some u → h'.get? b = some u) (hp : s.heap.objs.size ≤ a) (new : ObjOk X.prog X.w (upd H a o) h' a o) :
    Inv X pins σ (upd H a o) { s with heap := h', toks := t' } := I.un (Un.laid k hp (I.hok.fresh hp)) (I.hok.laid k hp new)
/-- an object written -/
theorem Inv.write {x e : Addr} {o : HO} {t' : Nat} (I : Inv X pins σ H s) (mu : Mut (H x)) (he : e = x ∨ H e = some (.own x)) (k : ∀ b u, b ≠ e → s.heap.get? b = some u → h'.get? b = some u) (heo : ∃ u, h'.get? e = some u)
    (new : ObjOk X.prog X.w (upd H x o) h' x o) : Inv X pins σ (upd H x o) { s with heap := h', toks := t' } := I.un (Un.write mu he k heo) (I.hok.write mu he k heo new)
/-- forgetting slots, pins -/
theorem Inv.weak {σ' : List (Option V)} (I : Inv X pins σ H s) (hl : σ'.length = σ.length) (w : ∀ (i : Nat) v, σ'[i]? = some (some v) → σ[i]? = some (some v)) : Inv X pins σ' H s :=
  ⟨I.ok, I.os, I.bare, I.base, let ⟨m, hn, hl'⟩ := I.loc; ⟨m, hn, fun i x v e1 e2 e3 => hl' i x v e1 (w i v e2) e3⟩, I.cell, I.free, I.freeC, I.pin, I.hok, hl.trans I.len⟩
theorem Inv.pins_of {pins' : List (Addr × Obj)} (I : Inv X pins σ H s) (h : ∀ p ∈ pins', s.heap.get? p.1 = some p.2 ∧ H p.1 = none ∧ p.1 ≠ X.env.locals ∧ p.1 ∉ X.fs ∧ ∀ v, p.2.data ≠ .cell v) : Inv X pins' σ H s :=
  ⟨I.ok, I.os, I.bare, I.base, I.loc, I.cell, I.free, I.freeC, fun p hp => (List.mem_append.mp hp).elim (fun z => I.pin p (List.mem_append_left _ z)) (h p), I.hok, I.len⟩

theorem nodup_ix {N : List Str} (hN : N.Nodup) {i j : Nat} {x : Str} (a : N[i]? = some x) (b : N[j]? = some x) : i = j := by
  obtain ⟨h1, e1⟩ := List.getElem?_eq_some_iff.mp a
  obtain ⟨h2, e2⟩ := List.getElem?_eq_some_iff.mp b
  exact (List.getElem_inj hN).mp (e1.trans e2.symm)

/-- a name is stored; what changed -/
theorem store_ok2 {M : Model} {A : Around} {E : Value → Shared → Prop} {i : Nat} {x : Str} {v : V} {u : Value} {Q : Unit → Shared → Prop} (I : Inv X pins σ H s) (hN : X.N.Nodup) (hi : X.N[i]? = some x) (hx : Loc X.env.scope x) (r : RelV v u)
    (h : ∀ s', Inv X pins (σ.set i (some v)) H s' → (∃ a, Heap.SameBut a s.heap s'.heap ∧ (a = X.env.locals ∨ X.env.cells.lookup x = some a)) → Q () s') (hf : X.fn x = true ∨ X.env.scope.names.lookup x = some .local := by first | exact .inl rfl | exact .inr rfl | assumption) : wpAny M A (storeName X.env x u) Q E s := by
  obtain ⟨m, hn, hl⟩ := id I.loc
  have hcls : (X.env.scope.kind == .class || (X.env.scope.kind == .module && X.env.locals != X.env.globals)) = false := by rw [I.ok.kind]; rfl
  have hiσ : i < σ.length := by rw [I.len]; exact (List.getElem?_eq_some_iff.mp hi).1
  have cne := I.cne
  have tracked : ∀ {a : Addr} {h' : Heap}, (∃ o, s.heap.get? a = some o ∧ H a = none) → Heap.SameBut a s.heap h' → HOk X.prog X.w H h' := fun {a h'} ha hs b ob e => by
    obtain ⟨_, _, hfree⟩ := ha
    refine (I.hok b ob e).stay (fun c w' hc q => (hs.2 c ?_).trans q) (fun _ q => q) fun _ _ q => q
    rintro rfl
    rcases hc with rfl | hc
    · rw [hfree] at e; cases e
    · rw [hfree] at hc; cases hc
  rcases hx with hk | hk
  · refine wpAny_storeName_local hk hn (fun h' hn' hs => ?_) hcls
    obtain ⟨oL, _, _, hoL, _⟩ := id hn
    refine h _ ⟨I.ok, I.os, I.bare, ⟨fun b o e n hb hx => ?_, fun b o e n hb hx => ?_, I.base.free, fun b o e hx => ?_, I.base.tups, I.base.frzs, I.base.tbls⟩, ⟨_, hn', fun j y v' e1 e2 e3 => ?_⟩, fun y c e => ?_, I.free, I.freeC, fun p hp => ?_, tracked ⟨oL, hoL, I.free⟩ hs, by simpa using I.len⟩ ⟨_, hs, .inl rfl⟩
    · exact (hs.2 b (Nat.ne_of_lt (Nat.lt_of_lt_of_le (Heap.lt_size e) I.ok.above))).trans (I.base.keep b o e n hb hx)
    · obtain ⟨sl, e1⟩ := I.base.slot b o e n hb hx
      exact ⟨sl, (hs.2 b (Nat.ne_of_lt (Nat.lt_of_lt_of_le (Heap.lt_size e) I.ok.above))).trans e1⟩
    · obtain ⟨o', e1⟩ := I.base.there b o e hx
      exact ⟨o', (hs.2 b (Nat.ne_of_lt (Nat.lt_of_lt_of_le (Heap.lt_size e) I.ok.above))).trans e1⟩
    · by_cases hj : j = i
      · subst hj
        rw [hi] at e1; cases e1
        rw [List.getElem?_set_self hiσ] at e2
        cases e2
        exact ⟨u, r, .inl ⟨hk, by simp⟩⟩
      · rw [List.getElem?_set_ne (Ne.symm hj)] at e2
        obtain ⟨u', r', q⟩ := hl j y v' e1 e2 e3
        refine ⟨u', r', ?_⟩
        rcases q with ⟨k, e⟩ | ⟨k, c, e, z⟩
        · refine .inl ⟨k, ?_⟩
          have : y ≠ x := fun e => hj (nodup_ix hN e1 (e ▸ hi))
          simp [this, e]
        · exact .inr ⟨k, c, e, z.sameBut hs (cne y c e)⟩
    · obtain ⟨w', z⟩ := I.cell y c e
      exact ⟨w', z.sameBut hs (cne y c e)⟩
    · obtain ⟨e, n, ne, nf, d⟩ := I.pin p hp
      exact ⟨(hs.2 p.1 ne).trans e, n, ne, nf, d⟩
  · have hfn : X.fn x = true := by
      rcases hf with z | z
      · exact z
      · rw [z] at hk; cases hk
    obtain ⟨c, hc⟩ := I.ok.has x (.inl hk)
    obtain ⟨w', z⟩ := I.cell x c hc
    refine wpAny_storeName_cell I.ok.kind hk hc z (fun h' hc' hs => ?_)
    obtain ⟨oc, hoc, hocd⟩ := id z
    refine h { s with heap := h' } ⟨I.ok, I.os, I.bare, ⟨fun b o e n hb hx => ?_, fun b o e n hb hx => ?_, I.base.free, fun b o e hx => ?_, I.base.tups, I.base.frzs, I.base.tbls⟩, ⟨m, hn.sameBut hs (Ne.symm (cne x c hc)), fun j y v' e1 e2 e3 => ?_⟩, fun y c' e => ?_, I.free, I.freeC, fun p hp => ?_, tracked ⟨oc, hoc, I.freeC x c hc⟩ hs, by simpa using I.len⟩ ⟨c, hs, .inr hc⟩
    · exact (hs.2 b (Nat.ne_of_lt (Nat.lt_of_lt_of_le (Heap.lt_size e) (I.ok.cab x c hfn hc)))).trans (I.base.keep b o e n hb hx)
    · obtain ⟨sl, e1⟩ := I.base.slot b o e n hb hx
      exact ⟨sl, (hs.2 b (Nat.ne_of_lt (Nat.lt_of_lt_of_le (Heap.lt_size e) (I.ok.cab x c hfn hc)))).trans e1⟩
    · obtain ⟨o', e1⟩ := I.base.there b o e hx
      exact ⟨o', (hs.2 b (Nat.ne_of_lt (Nat.lt_of_lt_of_le (Heap.lt_size e) (I.ok.cab x c hfn hc)))).trans e1⟩
    · by_cases hj : j = i
      · subst hj
        rw [hi] at e1; cases e1
        rw [List.getElem?_set_self hiσ] at e2
        cases e2
        exact ⟨u, r, .inr ⟨.inl hk, c, hc, hc'⟩⟩
      · rw [List.getElem?_set_ne (Ne.symm hj)] at e2
        obtain ⟨u', r', q⟩ := hl j y v' e1 e2 e3
        refine ⟨u', r', ?_⟩
        rcases q with q | ⟨k, c', e, z'⟩
        · exact .inl q
        · refine .inr ⟨k, c', e, z'.sameBut hs ?_⟩
          rintro rfl
          exact hj (nodup_ix hN e1 (I.ok.inj _ _ _ e hc ▸ hi))
    · by_cases hcc : c' = c
      · subst hcc; exact ⟨_, hc'⟩
      · obtain ⟨w2, z2⟩ := I.cell y c' e
        exact ⟨w2, z2.sameBut hs hcc⟩
    · obtain ⟨e, n, ne, nf, d⟩ := I.pin p hp
      refine ⟨(hs.2 p.1 ?_).trans e, n, ne, nf, d⟩
      intro q
      rw [q, hoc] at e
      have q' : oc = p.2 := Option.some.inj e
      exact d w' (by rw [← q']; exact hocd)
theorem store_ok {M : Model} {A : Around} {E : Value → Shared → Prop} {i : Nat} {x : Str} {v : V} {u : Value} {Q : Unit → Shared → Prop} (I : Inv X pins σ H s) (hN : X.N.Nodup) (hi : X.N[i]? = some x) (hx : Loc X.env.scope x) (r : RelV v u)
    (h : ∀ s', Inv X pins (σ.set i (some v)) H s' → Q () s') (hf : X.fn x = true ∨ X.env.scope.names.lookup x = some .local := by first | exact .inl rfl | exact .inr rfl | assumption) : wpAny M A (storeName X.env x u) Q E s :=
  store_ok2 I hN hi hx r (fun s' I' _ => h s' I') hf
/-- behind a call or a block, the state as it is -/
theorem Inv.call' {s' : Shared} {ch : List Addr} (I : Inv X pins σ H s) (ho : s'.os = s.os) (u : Un (frs X.stack) ch H H' s.heap s'.heap) (hok : HOk X.prog X.w H' s'.heap) (hg : AllBare s'.gens)
    (hch : ∀ b ∈ ch, (b ∈ X.ex ∨ X.s₀.heap.objs.size ≤ b) ∧ b ≠ X.env.locals ∧ (∀ x c, X.env.cells.lookup x = some c → c ≠ b) ∧ ∀ p ∈ X.pn ++ pins, p.1 ≠ b) : Inv X pins σ H' s' := by
  obtain ⟨h', g', d', t', o'⟩ := s'
  have e : o' = s.os := ho
  subst e
  exact I.call (g' := g') (t' := t') (d' := d') u hok hg hch
end

/-! ### the judgements -/
/-- an exception: its class, its own dict's address (where it has one), the abstract heap behind it -/
abbrev XK := Value → Option Addr → Hp → Prop
abbrev St := List (Option V)
abbrev VK := V → Hp → Prop
/-- an expression's reading; a test's; an argument list's -/
abbrev TE := St → Hp → VK → Prop
abbrev TT := St → Hp → (Bool → Hp → Prop) → Prop
abbrev TA := St → Hp → (List V → Hp → Prop) → Prop
/-- what is wanted behind a statement -/
structure Ends where
  nx : St → Hp → Prop
  rt : VK
  bk : St → Hp → Prop := fun _ _ => False
  ct : St → Hp → Prop := fun _ _ => False
abbrev TS := Ends → St → Hp → Prop

def EP (X : Cx) (pins : List (Addr × Obj)) (σ : St) (Q : VK) (u : Value) (s' : Shared) : Prop := ∃ v H', Inv X pins σ H' s' ∧ RelV v u ∧ Q v H'
def TP (X : Cx) (pins : List (Addr × Obj)) (σ : St) (Q : Bool → Hp → Prop) (b : Bool) (s' : Shared) : Prop := ∃ H', Inv X pins σ H' s' ∧ Q b H'
def AP (X : Cx) (pins : List (Addr × Obj)) (σ : St) (Q : List V → Hp → Prop) (us : List Value) (s' : Shared) : Prop := ∃ vs H', Inv X pins σ H' s' ∧ Vals vs us ∧ Q vs H'
def SP (X : Cx) (pins : List (Addr × Obj)) (D : Ends) (f : Flow) (s' : Shared) : Prop :=
  match f with
  | .next => ∃ σ' H', Inv X pins σ' H' s' ∧ D.nx σ' H'
  | .brk => ∃ σ' H', Inv X pins σ' H' s' ∧ D.bk σ' H'
  | .cont => ∃ σ' H', Inv X pins σ' H' s' ∧ D.ct σ' H'
  | .ret u => ∃ v σ' H', Inv X pins σ' H' s' ∧ RelV v u ∧ D.rt v H'

def PE (X : Cx) (e : Expr) (t : TE) : Prop :=
  ∀ (pins : List (Addr × Obj)) (s : Shared) (σ : St) (H : Hp) (Q : VK), Inv X pins σ H s → t σ H Q → wpAny (model X.prog X.w) X.A (eval e X.env) (EP X pins σ Q) X.xe s
def PT (X : Cx) (e : Expr) (t : TT) : Prop :=
  ∀ (pins : List (Addr × Obj)) (s : Shared) (σ : St) (H : Hp) (Q : Bool → Hp → Prop), Inv X pins σ H s → t σ H Q → wpAny (model X.prog X.w) X.A (isTrue e X.env (eval e X.env)) (TP X pins σ Q) X.xe s
/-- a test whatever its 'whole' is (and, or) -/
def PW (X : Cx) (e : Expr) (t : TT) : Prop :=
  ∀ (whole : Sem Value) (pins : List (Addr × Obj)) (s : Shared) (σ : St) (H : Hp) (Q : Bool → Hp → Prop), Inv X pins σ H s → t σ H Q → wpAny (model X.prog X.w) X.A (isTrue e X.env whole) (TP X pins σ Q) X.xe s
theorem PW.pt {X : Cx} {e : Expr} {t : TT} (h : PW X e t) : PT X e t := h _
/-- an argument list (no star), from the left -/
def PA (X : Cx) (es : List Expr) (t : TA) : Prop :=
  ∀ (pos : Pos) (pins : List (Addr × Obj)) (s : Shared) (σ : St) (H : Hp) (Q : List V → Hp → Prop), Inv X pins σ H s → t σ H Q → wpAny (model X.prog X.w) X.A (spliced (backTo pos (starEach es X.env))) (AP X pins σ Q) X.xe s
def PS (X : Cx) (st : Stmt) (t : TS) : Prop :=
  ∀ (pins : List (Addr × Obj)) (s : Shared) (σ : St) (H : Hp) (D : Ends), Inv X pins σ H s → t D σ H → wpAny (model X.prog X.w) X.A (exec st X.env) (SP X pins D) X.xe s
def PSs (X : Cx) (st : List Stmt) (t : TS) : Prop :=
  ∀ (pins : List (Addr × Obj)) (s : Shared) (σ : St) (H : Hp) (D : Ends), Inv X pins σ H s → t D σ H → wpAny (model X.prog X.w) X.A (execs st X.env) (SP X pins D) X.xe s
/-- weaken the end -/
theorem thn {α : Type} {t : Sem α} {Q Q' : α → Shared → Prop} {M : Model} {A : Around} {E : Value → Shared → Prop} {s : Shared} (h : wpAny M A t Q E s) (hQ : ∀ a s, Q a s → Q' a s) : wpAny M A t Q' E s := wpAny_mono h hQ fun _ _ x => x
end L2

namespace L2
open PySem PySem.Spec PyProof.Rows
section
variable {X : Cx}

/-! ### names and constants -/
def tVar (i : Nat) : TE := fun σ H Q => ∃ v, σ[i]? = some (some v) ∧ Q v H
def tC (v : V) : TE := fun _ H Q => Q v H
theorem pe_var {i : Nat} {x : Str} {pos : Pos} (hN : X.N[i]? = some x) (hv : Vis X.env.scope x) (hd : (x == ("__debug__" : Str)) = false := by decide) (hcd : (x == ("__classdict__" : Str)) = false := by decide) : PE X (.Name x pos) (tVar i) := by
  intro pins s σ H Q I h
  obtain ⟨v, e, h⟩ := h
  obtain ⟨m, hn, hl⟩ := I.loc
  obtain ⟨u, r, l⟩ := hl i x v hN e hv
  have fin : EP X pins σ Q u s := ⟨v, H, I, r, h⟩
  rcases l with ⟨hk, hm⟩ | ⟨hk, c, hc, hcell⟩
  · exact wpAny_Name (wpAny_loadName_local I.ok.kind hk hn hm fin) hd
  · rcases hk with hk | hk
    · exact wpAny_Name (wpAny_loadName_cell I.ok.kind hk hc hcell fin) hd
    · exact wpAny_Name (wpAny_loadName_free I.ok.kind hk hc hcell fin hcd) hd
theorem pe_int {i j pos} : PE X (.Constant (.int i) j pos) (tC (.int i)) := fun _ _ _ H _ I h => wpAny_Constant_int ⟨.int i, H, I.tok _, ⟨_, rfl⟩, h⟩
theorem pe_bl {b j pos} : PE X (.Constant (.bool b) j pos) (tC (.bl b)) := fun _ _ _ H _ I h => Constant_bool ⟨.bl b, H, I, rfl, h⟩
/-- a global name of the def -/
def Gl (X : Cx) (x : Str) : Prop := X.env.kindOf x = some .globalImplicit
theorem ld_glob {E : Value → Shared → Prop} {pins : List (Addr × Obj)} {s : Shared} {σ : St} {H : Hp} {x : Str} {u : Value} {pos : Pos} {Q : Value → Shared → Prop} (I : Inv X pins σ H s) (hg : Gl X x) (hm : X.mg x = some u) (h : Q u s)
    (hd : (x == ("__debug__" : Str)) = false := by decide) : wpAny (model X.prog X.w) X.A (eval (.Name x pos) X.env) Q E s :=
  Calls.Name_function_global I.ok.kind hg (Calls.loadGlobal_global (by rw [I.ok.glob]; exact I.mod.glob.keeps I.bk) hm h) hd
theorem ld_blt {E : Value → Shared → Prop} {pins : List (Addr × Obj)} {s : Shared} {σ : St} {H : Hp} {x : Str} {u : Value} {pos : Pos} {Q : Value → Shared → Prop} (I : Inv X pins σ H s) (hg : Gl X x) (hm : X.mg x = none) (hv : bootBuiltins x = some u) (h : Q u s)
    (hn : x ≠ "__name__" := by decide) (hd : (x == ("__debug__" : Str)) = false := by decide) : wpAny (model X.prog X.w) X.A (eval (.Name x pos) X.env) Q E s := by
  obtain ⟨mb, h1, h2⟩ := I.mod.blt
  exact Calls.Name_function_global I.ok.kind hg (Calls.loadGlobal_builtin (by rw [I.ok.glob]; exact I.mod.glob.keeps I.bk) hm (by rw [I.ok.blt]; exact h1.keeps I.bk) ((h2 x hn).trans hv) h) hd
/-- a module's constant, a class, a function, as a value -/
theorem pe_glob {x : Str} {v : V} {u : Value} {pos : Pos} (hg : Gl X x) (hm : X.mg x = some u) (r : RelV v u) (hd : (x == ("__debug__" : Str)) = false := by decide) : PE X (.Name x pos) (tC v) :=
  fun _ _ _ H _ I h => ld_glob I hg hm ⟨v, H, I, r, h⟩ hd
theorem pe_bltn {x : Str} {v : V} {u : Value} {pos : Pos} (hg : Gl X x) (hm : X.mg x = none) (hv : bootBuiltins x = some u) (r : RelV v u) (hn : x ≠ "__name__" := by decide) (hd : (x == ("__debug__" : Str)) = false := by decide) : PE X (.Name x pos) (tC v) :=
  fun _ _ _ H _ I h => ld_blt I hg hm hv ⟨v, H, I, r, h⟩ hn hd

/-! ### arithmetic -/
variable {a b : Expr} {ta tb : TE} {pos : Pos}
/-! ### comparisons -/
def PC (X : Cx) (op : CmpOp) (a b : Expr) (t : TE) : Prop :=
  ∀ (pins : List (Addr × Obj)) (s : Shared) (σ : St) (H : Hp) (Q : VK), Inv X pins σ H s → t σ H Q →
    wpAny (model X.prog X.w) X.A (eval a X.env) (fun v s₁ => wpAny (model X.prog X.w) X.A (eval b X.env) (fun u s₂ => wpAny (model X.prog X.w) X.A (compareOp op v u) (EP X pins σ Q) X.xe s₂) X.xe s₁) X.xe s
theorem nobehind (b : Expr) {op : CmpOp} (h : op ≠ .In) (h2 : op ≠ .NotIn) : behindInMarks op b = false := by
  have e1 : (op == CmpOp.In) = false := by cases op <;> first | rfl | exact absurd rfl h
  have e2 : (op == CmpOp.NotIn) = false := by cases op <;> first | rfl | exact absurd rfl h2
  cases b <;> simp [behindInMarks, e1, e2]
/-- a comparison as a value, as a test -/
def tB (t : TE) : TT := fun σ H Q => t σ H fun x H1 => ∃ c, x = .bl c ∧ Q c H1
theorem pt_cmp {op : CmpOp} {t : TE} (h : PC X op a b t) (h1 : behindInMarks op b = false := by first | exact nobehind _ (by decide) (by decide) | rfl) : PT X (.Compare a [op] [b] pos) (tB t) := by
  intro pins s σ H Q I hw
  refine wpAny_isTrue_Compare1 (thn (h pins s σ H _ I hw) fun v s1 h1 => thn h1 fun u s2 h2 => thn h2 fun c s3 ⟨x, H1, I1, r1, q1⟩ => ?_) h1
  obtain ⟨d, rfl, q⟩ := q1
  cases r1
  exact wpAny_truthy_bool ⟨H1, I1, q⟩
/-- an expression whose value is a bool, as a test -/
theorem pt_val {e : Expr} {t : TE} (h : PE X e t) (he : ∀ whole, isTrue e X.env whole = (do let v ← whole; standAt e.pos; holding [v] (truthy v)) := by intro _; rfl) : PT X e (tB t) := by
  intro pins s σ H Q I hw
  refine isTrue_plain (thn (h pins s σ H _ I hw) fun v s1 ⟨x, H1, I1, r1, q1⟩ => ?_) (he _)
  obtain ⟨d, rfl, q⟩ := q1
  cases r1
  exact wpAny_truthy_bool ⟨H1, I1, q⟩

/-! ### and, or, not -/
variable {tA tB' : TT} {rest : List Expr}
def tAnd (t u : TT) : TT := fun σ H Q => t σ H fun c H1 => if c = true then u σ H1 Q else Q false H1
def tOr (t u : TT) : TT := fun σ H Q => t σ H fun c H1 => if c = true then Q true H1 else u σ H1 Q
def tNot (t : TT) : TT := fun σ H Q => t σ H fun c H1 => Q (!c) H1
theorem pw_and1 (ha : PT X a tA) : PW X (.BoolOp .And [a] pos) tA := by
  intro wh pins s σ H Q I h
  refine isTrue_and (thn (ha pins s σ H Q I h) fun c s1 e => ?_)
  cases c with
  | true => exact isTrue_and_nil e
  | false => exact e
theorem pw_or1 (ha : PT X a tA) : PW X (.BoolOp .Or [a] pos) tA := by
  intro wh pins s σ H Q I h
  refine isTrue_or (thn (ha pins s σ H Q I h) fun c s1 e => ?_)
  cases c with
  | false => exact isTrue_or_nil e
  | true => exact e
theorem pw_and (ha : PT X a tA) (hb : PW X (.BoolOp .And (b :: rest) pos) tB') : PW X (.BoolOp .And (a :: b :: rest) pos) (tAnd tA tB') := by
  intro wh pins s σ H Q I h
  refine isTrue_and (thn (ha pins s σ H _ I h) fun c s1 ⟨H1, I1, q1⟩ => ?_)
  cases c with
  | true => exact hb wh pins s1 σ H1 Q I1 q1
  | false => exact ⟨H1, I1, q1⟩
theorem pw_or (ha : PT X a tA) (hb : PW X (.BoolOp .Or (b :: rest) pos) tB') : PW X (.BoolOp .Or (a :: b :: rest) pos) (tOr tA tB') := by
  intro wh pins s σ H Q I h
  refine isTrue_or (thn (ha pins s σ H _ I h) fun c s1 ⟨H1, I1, q1⟩ => ?_)
  cases c with
  | true => exact ⟨H1, I1, q1⟩
  | false => exact hb wh pins s1 σ H1 Q I1 q1
theorem pt_not (ha : PT X a tA) : PT X (.UnaryOp .Not a pos) (tNot tA) := by
  intro pins s σ H Q I h
  exact isTrue_not (ha pins s σ H (fun c H1 => Q (!c) H1) I h)
/-- .. as values (bools) -/
def tAndV (ta tb : TE) : TE := fun σ H Q => ta σ H fun x H1 => ∃ c, x = .bl c ∧ if c = true then tb σ H1 Q else Q (.bl false) H1
def tOrV (ta tb : TE) : TE := fun σ H Q => ta σ H fun x H1 => ∃ c, x = .bl c ∧ if c = true then Q (.bl true) H1 else tb σ H1 Q
def tNotV (ta : TE) : TE := fun σ H Q => ta σ H fun x H1 => ∃ c, x = .bl c ∧ Q (.bl (!c)) H1
theorem pe_one {op} {t : TE} (h : PE X a t) : PE X (.BoolOp op [a] pos) t := fun pins s σ H Q I hw => BoolOp_one (h pins s σ H Q I hw)
theorem pe_and (ha : PE X a ta) (hb : PE X (.BoolOp .And (b :: rest) pos) tb) : PE X (.BoolOp .And (a :: b :: rest) pos) (tAndV ta tb) := by
  intro pins s σ H Q I h
  refine BoolOp_and (thn (ha pins s σ H _ I h) fun v s1 ⟨x, H1, I1, r1, q1⟩ => ?_)
  obtain ⟨c, rfl, q1⟩ := q1
  cases r1
  refine wpAny_truthy_bool ?_
  cases c with
  | true => exact hb pins s1 σ H1 Q I1 q1
  | false => exact ⟨.bl false, H1, I1, rfl, q1⟩
theorem pe_or (ha : PE X a ta) (hb : PE X (.BoolOp .Or (b :: rest) pos) tb) : PE X (.BoolOp .Or (a :: b :: rest) pos) (tOrV ta tb) := by
  intro pins s σ H Q I h
  refine BoolOp_or (thn (ha pins s σ H _ I h) fun v s1 ⟨x, H1, I1, r1, q1⟩ => ?_)
  obtain ⟨c, rfl, q1⟩ := q1
  cases r1
  refine wpAny_truthy_bool ?_
  cases c with
  | false => exact hb pins s1 σ H1 Q I1 q1
  | true => exact ⟨.bl true, H1, I1, rfl, q1⟩
theorem pe_not (ha : PE X a ta) : PE X (.UnaryOp .Not a pos) (tNotV ta) := by
  intro pins s σ H Q I h
  refine UnaryOp_ (thn (ha pins s σ H _ I h) fun v s1 ⟨x, H1, I1, r1, q1⟩ => ?_)
  obtain ⟨c, rfl, q1⟩ := q1
  cases r1
  exact not_of (wpAny_truthy_bool ⟨.bl (!c), H1, I1, rfl, q1⟩)
/-- a if t else b -/
def tIf (t : TT) (ta tb : TE) : TE := fun σ H Q => t σ H fun c H1 => if c = true then ta σ H1 Q else tb σ H1 Q
theorem pe_ifExp {c : Expr} (hc : PT X c tA) (ha : PE X a ta) (hb : PE X b tb) : PE X (.IfExp c a b pos) (tIf tA ta tb) := by
  intro pins s σ H Q I h
  refine wpAny_IfExp (thn (hc pins s σ H _ I h) fun d s1 ⟨H1, I1, q1⟩ => ?_)
  cases d with
  | true => exact ha pins s1 σ H1 Q I1 q1
  | false => exact hb pins s1 σ H1 Q I1 q1
end
end L2

namespace L2
open PySem PySem.Spec PyProof.Rows

/-! ### a list, a tuple that is read: tracked, frozen, or an object of the module -/
def SqL (K : PySem.W.Frag) (H : Hp) (a : Addr) (xs : List V) : Prop :=
  Rd H a (.lst xs) ∨
    ∃ (o : Obj) (its : Array Value) (n : Nat), K.lookup a = some o ∧ o.cls = .type "list" ∧ o.dict = none ∧ o.data = .seq its n ∧ its.size ≤ sizeLine ∧ Vals xs its.toList
def SqT (K : PySem.W.Frag) (H : Hp) (a : Addr) (xs : List V) : Prop :=
  Rd H a (.tup xs) ∨
    ∃ (o : Obj) (its : Array Value) (n : Nat), K.lookup a = some o ∧ o.cls = .type "tuple" ∧ o.data = .seq its n ∧ its.size ≤ sizeLine ∧ Vals xs its.toList
def absV : Value → Option V
  | .none => some .non
  | .bool b => some (.bl b)
  | .int i _ => some (.int i)
  | .str x _ => some (.str x)
  | .bytes b _ => some (.byt b)
  | .float b _ => some (.flt b)
  | .ref a => some (.ref a)
  | .type n => some (.ty n)
  | _ => none
theorem RelV.abs {x : V} {u : Value} (r : RelV x u) : absV u = some x := by
  cases x with
  | non => cases r; rfl
  | bl _ => cases r; rfl
  | int _ => obtain ⟨t, rfl⟩ := r; rfl
  | str _ => obtain ⟨t, rfl⟩ := r; rfl
  | byt _ => obtain ⟨t, rfl⟩ := r; rfl
  | flt _ => obtain ⟨t, rfl⟩ := r; rfl
  | ref _ => cases r; rfl
  | ty _ => cases r; rfl
theorem RelV.inj {x y : V} {u : Value} (r : RelV x u) (q : RelV y u) : x = y := Option.some.inj (r.abs.symm.trans q.abs)
theorem Vals.inj : ∀ {xs ys : List V} {us : List Value}, Vals xs us → Vals ys us → xs = ys
  | _, _, _, .nil, .nil => rfl
  | _, _, _, .cons r t, .cons r' t' => by rw [r.inj r', Vals.inj t t']
section
variable {X : Cx} {pins : List (Addr × Obj)} {σ : St} {H : Hp} {s : Shared} {a : Addr} {xs ys : List V}
theorem SqL.of {K : PySem.W.Frag} (h : H a = some (.lst xs)) : SqL K H a xs := .inl (.inl h)
theorem SqT.of {K : PySem.W.Frag} (h : H a = some (.tup xs)) : SqT K H a xs := .inl (.inl h)
theorem Inv.list (I : Inv X pins σ H s) (h : SqL X.K H a xs) : ∃ its : List Value, Vals xs its ∧ PlainL s.heap a its.toArray ∧ xs.length ≤ sizeLine := by
  rcases h with h | ⟨o, its, n, hk, hc, hd, hs, hz, r⟩
  · obtain ⟨z, its, n, r, e⟩ := h.ok I.hok
    exact ⟨its, r, ⟨_, n, e, rfl, rfl, rfl⟩, z⟩
  · refine ⟨its.toList, r, ⟨o, n, I.kIn a o hk, hc, hd, by simpa using hs⟩, ?_⟩
    have e := r.length
    simp only [Array.length_toList] at e
    omega
theorem Inv.tuple (I : Inv X pins σ H s) (h : SqT X.K H a xs) : ∃ its : List Value, Vals xs its ∧ IsTup s.heap a its.toArray ∧ xs.length ≤ sizeLine := by
  rcases h with h | ⟨o, its, n, hk, hc, hs, hz, r⟩
  · obtain ⟨z, its, r, p⟩ := h.ok I.hok
    exact ⟨its, r, p, z⟩
  · refine ⟨its.toList, r, ⟨o, I.kIn a o hk, hc, n, by simpa using hs⟩, ?_⟩
    have e := r.length
    simp only [Array.length_toList] at e
    omega
theorem Inv.list_inj (I : Inv X pins σ H s) (h : SqL X.K H a xs) (h' : SqL X.K H a ys) : xs = ys := by
  obtain ⟨its, r, ⟨o, n, e, _, _, d⟩, _⟩ := I.list h
  obtain ⟨its', r', ⟨o', n', e', _, _, d'⟩, _⟩ := I.list h'
  rw [e] at e'; cases e'
  rw [d] at d'
  injection d' with d1 _
  have : its = its' := by simpa using congrArg Array.toList d1
  subst this
  exact r.inj r'
theorem Inv.tuple_inj (I : Inv X pins σ H s) (h : SqT X.K H a xs) (h' : SqT X.K H a ys) : xs = ys := by
  obtain ⟨its, r, ⟨o, e, _, n, d⟩, _⟩ := I.tuple h
  obtain ⟨its', r', ⟨o', e', _, n', d'⟩, _⟩ := I.tuple h'
  rw [e] at e'; cases e'
  rw [d] at d'
  injection d' with d1 _
  have : its = its' := by simpa using congrArg Array.toList d1
  subst this
  exact r.inj r'
end

/-! ### another wish about exceptions -/
abbrev Cx.wish (X : Cx) (E : Value → Shared → Prop) : Cx := { X with xe := E }
/-- no exception leaves -/
abbrev Cx.nox (X : Cx) : Cx := X.wish fun _ _ => False
theorem Cx.Ok.wish {X : Cx} (ok : X.Ok) (E : Value → Shared → Prop) : (X.wish E).Ok :=
  ⟨ok.mod, ok.kind, ok.glob, ok.blt, ok.above, ok.inj, ok.has, ok.cab, ok.hd, ok.frames, ok.stk, ok.exf, ok.bs, ok.bsz, ok.noex, ok.exfs, ok.funs, ok.frf⟩
theorem Cx.Ok.unwish {X : Cx} {E : Value → Shared → Prop} (ok : (X.wish E).Ok) : X.Ok :=
  ⟨ok.mod, ok.kind, ok.glob, ok.blt, ok.above, ok.inj, ok.has, ok.cab, ok.hd, ok.frames, ok.stk, ok.exf, ok.bs, ok.bsz, ok.noex, ok.exfs, ok.funs, ok.frf⟩
section
variable {X : Cx} {pins : List (Addr × Obj)} {σ : St} {H : Hp} {s : Shared} {E : Value → Shared → Prop}
theorem Inv.wish (I : Inv X pins σ H s) (E : Value → Shared → Prop) : Inv (X.wish E) pins σ H s := ⟨I.ok.wish E, I.os, I.bare, I.base, I.loc, I.cell, I.free, I.freeC, I.pin, I.hok, I.len⟩
theorem Inv.unwish (I : Inv (X.wish E) pins σ H s) : Inv X pins σ H s := ⟨I.ok.unwish, I.os, I.bare, I.base, I.loc, I.cell, I.free, I.freeC, I.pin, I.hok, I.len⟩
theorem SP.unwish {D : Ends} {f : Flow} {s' : Shared} (h : SP (X.wish E) pins D f s') : SP X pins D f s' := by
  cases f with
  | next => obtain ⟨σ', H', I, q⟩ := h; exact ⟨σ', H', I.unwish, q⟩
  | brk => obtain ⟨σ', H', I, q⟩ := h; exact ⟨σ', H', I.unwish, q⟩
  | cont => obtain ⟨σ', H', I, q⟩ := h; exact ⟨σ', H', I.unwish, q⟩
  | ret u => obtain ⟨v, σ', H', I, r, q⟩ := h; exact ⟨v, σ', H', I.unwish, r, q⟩
theorem PSs.nox {st : List Stmt} {t : TS} (h : PSs X.nox st t) : PSs X st t := fun pins s σ H D I hw =>
  wpAny_mono (h pins s σ H D (I.wish _) hw) (fun _ _ q => q.unwish) fun _ _ z => False.elim z
end

/-! ### blocks and small statements -/
section
variable {X : Cx} {st : Stmt} {rest : List Stmt} {t u : TS} {e : Expr} {te : TE} {pos : Pos}
def tNext : TS := fun D σ H => D.nx σ H
def tSeq (t u : TS) : TS := fun D σ H => t { D with nx := u D } σ H
theorem pss_nil : PSs X [] tNext := fun _ _ σ H _ I h => wpAny_execs_nil ⟨σ, H, I, h⟩
theorem pss_cons (h1 : PS X st t) (h2 : PSs X rest u) : PSs X (st :: rest) (tSeq t u) := by
  intro pins s σ H D I h
  refine wpAny_execs_cons (thn (h1 pins s σ H { D with nx := u D } I h) fun f s1 q => ?_)
  cases f with
  | next =>
    obtain ⟨σ', H', I', q⟩ := q
    exact h2 pins s1 σ' H' D I' q
  | ret v => exact q
  | brk => exact q
  | cont => exact q
theorem pss_one (h1 : PS X st t) : PSs X [st] t := by
  intro pins s σ H D I h
  refine wpAny_execs_cons (thn (h1 pins s σ H D I h) fun f s1 q => ?_)
  cases f with
  | next => exact wpAny_execs_nil q
  | ret v => exact q
  | brk => exact q
  | cont => exact q
/-- in a def's body nothing is shown -/
theorem Inv.quiet {pins : List (Addr × Obj)} {σ : St} {H : Hp} {s : Shared} (I : Inv X pins σ H s) : interactive X.env = false := by simp [interactive, I.ok.kind]
/-- an expression whose value is dropped -/
def tDrop (te : TE) : TS := fun D σ H => te σ H fun _ H1 => D.nx σ H1
theorem ps_expr (he : PE X e te) (hs : swapsWith e none pos.line X.env = pure false := by rfl) : PS X (.Expr e pos) (tDrop te) := by
  intro pins s σ H D I h
  exact wpAny_Expr_any (thn (he pins s σ H _ I h) fun v s1 ⟨x, H1, I1, r1, q1⟩ => ⟨σ, H1, I1, q1⟩) I.quiet hs
def tRet (te : TE) : TS := fun D σ H => te σ H D.rt
theorem ps_ret (he : PE X e te) : PS X (.Return (some e) pos) (tRet te) := by
  intro pins s σ H D I h
  exact wpAny_Return_some (thn (he pins s σ H _ I h) fun v s1 ⟨x, H1, I1, r1, q1⟩ => ⟨x, σ, H1, I1, r1, q1⟩)
def tIfS (c : TT) (t u : TS) : TS := fun D σ H => c σ H fun b H1 => if b = true then t D σ H1 else u D σ H1
theorem ps_if {c : Expr} {a b : List Stmt} {tc : TT} (hc : PT X c tc) (ha : PSs X a t) (hb : PSs X b u) : PS X (.If c a b pos) (tIfS tc t u) := by
  intro pins s σ H D I h
  refine wpAny_If (thn (hc pins s σ H _ I h) fun d s1 ⟨H1, I1, q1⟩ => ?_)
  cases d with
  | true => exact ha pins s1 σ H1 D I1 q1
  | false => exact hb pins s1 σ H1 D I1 q1
/-- code that the proof never comes to -/
def tNever : TS := fun _ _ _ => False
theorem ps_never : PS X st tNever := fun _ _ _ _ _ _ h => h.elim
end

/-! ### targets -/
abbrev TG := V → St → Hp → (St → Hp → Prop) → Prop
abbrev TGs := List V → St → Hp → (St → Hp → Prop) → Prop
def PG (X : Cx) (target : Expr) (t : TG) : Prop :=
  ∀ (pins : List (Addr × Obj)) (s : Shared) (σ : St) (H : Hp) (v : V) (u : Value) (Q : St → Hp → Prop), Inv X pins σ H s → RelV v u → t v σ H Q →
    wpAny (model X.prog X.w) X.A (assign target X.env u) (fun _ s' => ∃ σ' H', Inv X pins σ' H' s' ∧ Q σ' H') X.xe s
/-- several targets, one after another -/
def PGs (X : Cx) (ts : List Expr) (t : TGs) : Prop :=
  ∀ (pins : List (Addr × Obj)) (s : Shared) (σ : St) (H : Hp) (vs : List V) (us : List Value) (Q : St → Hp → Prop), Inv X pins σ H s → Vals vs us → t vs σ H Q →
    wpAny (model X.prog X.w) X.A (assignInOrder ((assignEach ts X.env).map (·.2)) us) (fun _ s' => ∃ σ' H', Inv X pins σ' H' s' ∧ Q σ' H') X.xe s
/-- o[i] = v, by values -/
abbrev TSet := V → V → V → Hp → (Hp → Prop) → Prop
def PSet (X : Cx) (t : TSet) : Prop :=
  ∀ (pins : List (Addr × Obj)) (s : Shared) (σ : St) (H : Hp) (o i v : V) (ov iv u : Value) (Q : Hp → Prop), Inv X pins σ H s → RelV o ov → RelV i iv → RelV v u → t o i v H Q →
    wpAny (model X.prog X.w) X.A (setItem ov iv u) (fun _ s' => ∃ H', Inv X pins σ H' s' ∧ Q H') X.xe s
/-- a op= b, by values -/
abbrev TIp := V → V → Hp → VK → Prop
def PIp (X : Cx) (op : Operator) (t : TIp) : Prop :=
  ∀ (pins : List (Addr × Obj)) (s : Shared) (σ : St) (H : Hp) (x y : V) (v u : Value) (Q : VK), Inv X pins σ H s → RelV x v → RelV y u → t x y H Q →
    wpAny (model X.prog X.w) X.A (inplaceOp op v u) (EP X pins σ Q) X.xe s
section
variable {X : Cx} {pos : Pos}
def gName (i : Nat) : TG := fun v σ H Q => Q (σ.set i (some v)) H
theorem pg_name {i : Nat} {x : Str} (hN : X.N.Nodup) (hi : X.N[i]? = some x) (hx : Loc X.env.scope x) (hf : X.fn x = true ∨ X.env.scope.names.lookup x = some .local := by first | exact .inl rfl | exact .inr rfl | assumption) : PG X (.Name x pos) (gName i) := by
  intro pins s σ H v u Q I r h
  exact wpAny_assign_Name (store_ok I hN hi hx r (fun s' I' => ⟨_, H, I', h⟩) hf)
def gNil : TGs := fun vs σ H Q => vs = [] ∧ Q σ H
def gCons (t : TG) (u : TGs) : TGs := fun vs σ H Q => ∃ v r, vs = v :: r ∧ t v σ H fun σ' H' => u r σ' H' Q
theorem pgs_nil : PGs X [] gNil := by
  intro pins s σ H vs us Q I r h
  obtain ⟨e, h⟩ := h
  subst e
  cases r
  exact assignInOrder_nil ⟨σ, H, I, h⟩
theorem pgs_cons {e : Expr} {es : List Expr} {t : TG} {u : TGs} (h1 : PG X e t) (h2 : PGs X es u)
    (hs : (assignEach (e :: es) X.env).map (·.2) = assign e X.env :: (assignEach es X.env).map (·.2) := by rfl) : PGs X (e :: es) (gCons t u) := by
  intro pins s σ H vs us Q I r h
  obtain ⟨v, vr, e1, h⟩ := h
  subst e1
  cases r with
  | cons r rr =>
    rw [hs]
    refine assignInOrder_cons (thn (h1 pins s σ H _ _ _ I r h) fun _ s1 ⟨σ1, H1, I1, q1⟩ => ?_)
    exact h2 pins s1 σ1 H1 _ _ Q I1 rr q1
/-- (a, b, ..) = a tuple of that length -/
def gTup (K : PySem.W.Frag) (n : Nat) (t : TGs) : TG := fun v σ H Q => ∃ a xs, v = .ref a ∧ SqT K H a xs ∧ xs.length = n ∧ t xs σ H Q
theorem pg_tup {es : List Expr} {k : Nat} {t : TGs} {n : Nat} (hc : X.calm = true) (h : PGs X es t)
    (hn : (assignEach es X.env).length = n := by rfl) (hst : (assignEach es X.env).findIdx? (·.1) = none := by rfl) : PG X (.Tuple es k pos) (gTup X.K n t) := by
  intro pins s σ H v u Q I r hw
  obtain ⟨a, xs, e1, hq, hl, hw⟩ := hw
  subst e1
  cases r
  obtain ⟨its, rv, ht, hz⟩ := I.tuple hq
  refine assign_Tuple_tuple (I.ok.hd hc) ht (by simp [hn, ← hl, rv.length]) hst fun h' hx => ?_
  have I1 : Inv X pins σ H { s with heap := h' } := I.kept (t' := s.toks) fun b o e => hx b o (Nat.ne_of_lt (Heap.lt_size e)) e
  exact h pins _ σ H xs _ Q I1 (by simpa using rv) hw
/-- o[i] = .. -/
def gSub (to ti : TE) (t : TSet) : TG := fun v σ H Q => to σ H fun o H1 => ti σ H1 fun i H2 => t o i v H2 fun H3 => Q σ H3
theorem pg_sub {o i : Expr} {to ti : TE} {t : TSet} (ho : PE X o to) (hi : PE X i ti) (hs : PSet X t)
    (ha : ∀ v, assign (.Subscript o i pos) X.env v = (do
      let ov ← holding [v] (eval o X.env)
      let iv ← holding [v, ov] (eval i X.env)
      standAt pos
      holding [v, ov, iv] (setItem ov iv v)
      release [v, ov, iv] []) := by intro _; rfl) : PG X (.Subscript o i pos) (gSub to ti t) := by
  intro pins s σ H v u Q I r h
  rw [ha]
  refine wpAny_bind (wpAny_holding (thn (ho pins s σ H _ I h) fun ov s1 ⟨x, H1, I1, r1, q1⟩ => ?_))
  refine wpAny_bind (wpAny_holding (thn (hi pins s1 σ H1 _ I1 q1) fun iv s2 ⟨y, H2, I2, r2, q2⟩ => ?_))
  refine wpAny_bind (wpAny_standAt (wpAny_bind (wpAny_holding (thn (hs pins s2 σ H2 x y v ov iv u _ I2 r1 r2 r q2) fun _ s3 ⟨H3, I3, q3⟩ => ?_))))
  exact wpAny_release ⟨σ, H3, I3, q3⟩
/-- target = value -/
def tAsg (te : TE) (g : TG) : TS := fun D σ H => te σ H fun x H1 => g x σ H1 D.nx
theorem ps_asg {tg e : Expr} {te : TE} {g : TG} (he : PE X e te) (hg : PG X tg g) (hs : swapsWithSole [tg] e pos.line X.env = pure false := by rfl) (hw : swappedStores [tg] e X.env = pure none := by rfl)
    (h1 : (assignEach [tg] X.env).map (·.2) = [assign tg X.env] := by rfl) : PS X (.Assign [tg] e pos) (tAsg te g) := by
  intro pins s σ H D I h
  refine wpAny_Assign_stores (thn (he pins s σ H _ I h) fun v s1 ⟨x, H1, I1, r1, q1⟩ => ?_) hs hw
  rw [h1]
  exact thn (hg pins s1 σ H1 x v _ I1 r1 q1) fun _ s2 q => q
/-- name = value -/
theorem ps_set {i : Nat} {x : Str} {e : Expr} {te : TE} {pos' : Pos} (hN : X.N.Nodup) (hi : X.N[i]? = some x) (hx : Loc X.env.scope x) (he : PE X e te) (hs : swapsWith e (some (.Name x pos')) pos.line X.env = pure false := by rfl) (hf : X.fn x = true ∨ X.env.scope.names.lookup x = some .local := by first | exact .inl rfl | exact .inr rfl | assumption) :
    PS X (.Assign [.Name x pos'] e pos) (tAsg te (gName i)) := by
  intro pins s σ H D I h
  refine wpAny_Assign_Name (thn (he pins s σ H _ I h) fun v s1 ⟨y, H1, I1, r1, q1⟩ => ?_) hs
  exact store_ok I1 hN hi hx r1 (fun s2 I2 => ⟨_, H1, I2, q1⟩) hf
/-- name op= e -/
def tAug (i : Nat) (te : TE) (ti : TIp) : TS := fun D σ H => ∃ x, σ[i]? = some (some x) ∧ te σ H fun y H1 => ti x y H1 fun z H2 => D.nx (σ.set i (some z)) H2
theorem ps_aug {i : Nat} {x : Str} {e : Expr} {te : TE} {op : Operator} {ti : TIp} {pos' : Pos} (hN : X.N.Nodup) (hi : X.N[i]? = some x) (hx : Loc X.env.scope x) (he : PE X e te) (ho : PIp X op ti) (hf : X.fn x = true ∨ X.env.scope.names.lookup x = some .local := by first | exact .inl rfl | exact .inr rfl | assumption) :
    PS X (.AugAssign (.Name x pos') op e pos) (tAug i te ti) := by
  intro pins s σ H D I h
  obtain ⟨v, e1, h⟩ := h
  obtain ⟨m, hn, hl⟩ := I.loc
  have vis : Vis X.env.scope x := by rcases hx with k | k; exact .inl k; exact .inr (.inl k)
  obtain ⟨u, r, l⟩ := hl i x v hi e1 vis
  refine wpAny_AugAssign_Name ?_
  have go : wpAny (model X.prog X.w) X.A (eval e X.env) (fun w s₂ => wpAny (model X.prog X.w) X.A (inplaceOp op u w) (fun r s₃ => wpAny (model X.prog X.w) X.A (storeName X.env x r) (fun _ => SP X pins D .next) X.xe s₃) X.xe s₂) X.xe s := by
    refine thn (he pins s σ H _ I h) fun w s1 ⟨y, H1, I1, r1, q1⟩ => ?_
    refine thn (ho pins s1 σ H1 v y u w _ I1 r r1 q1) fun z s2 ⟨zv, H2, I2, r2, q2⟩ => ?_
    exact store_ok I2 hN hi hx r2 (fun s3 I3 => ⟨_, H2, I3, q2⟩) hf
  rcases l with ⟨hk, hm⟩ | ⟨hk, c, hc, hcell⟩
  · exact wpAny_loadName_local I.ok.kind hk hn hm go
  · rcases hk with hk | hk
    · exact wpAny_loadName_cell I.ok.kind hk hc hcell go
    · rcases hx with k | k
      · have : X.env.scope.names.lookup x = some .free := hk
        rw [k] at this; cases this
      · have : X.env.scope.names.lookup x = some .free := hk
        rw [k] at this; cases this
/-- ints -/
def ipI (f : Int → Int → Int) : TIp := fun x y H Q => ∃ i j, x = .int i ∧ y = .int j ∧ Q (.int (f i j)) H
theorem ip_add : PIp X .Add (ipI fun i j => i + j) := by
  intro pins s σ H x y v u Q I r1 r2 h
  obtain ⟨i, j, e1, e2, q⟩ := h
  subst e1; subst e2
  obtain ⟨t, rfl⟩ := r1
  obtain ⟨t', rfl⟩ := r2
  exact iadd_int ⟨.int _, H, I.tok _, ⟨_, rfl⟩, q⟩
end

/-! ### while -/
section
variable {X : Cx} {pos : Pos}
/-- the invariant W with its measure -/
def tWhile (c : TT) (tb : TS) : TS := fun D σ H => ∃ W : Nat → St → Hp → Prop, (∃ m, W m σ H) ∧ ∀ m σ H, W m σ H →
  c σ H fun b H1 => if b = true then ∃ N : St → Hp → Prop, (∀ σ' H', N σ' H' → ∃ m', m' < m ∧ W m' σ' H') ∧ tb { D with nx := N, ct := N, bk := D.nx } σ H1 else D.nx σ H1
theorem ps_while {c : Expr} {body : List Stmt} {tc : TT} {tb : TS} (hp : PassesOwn (model X.prog X.w) X.A X.env X.xe) (hc : PT X c tc) (hb : PSs X body tb) : PS X (.While c body [] pos) (tWhile tc tb) := by
  intro pins s σ H D I h
  obtain ⟨W, ⟨m0, w0⟩, turn⟩ := h
  refine wpAny_While (codeAny_whileLoop (fun n s' => ∃ σ' H', Inv X pins σ' H' s' ∧ W n σ' H') ?_ m0 ⟨σ, H, I, w0⟩)
  rintro n s1 ⟨σ1, H1, I1, w1⟩
  refine wpAny_passesOwn hp (thn (hc pins s1 σ1 H1 _ I1 (turn n σ1 H1 w1)) fun b s2 ⟨H2, I2, q2⟩ => ?_)
  cases b with
  | true =>
    obtain ⟨N, hN, q2⟩ := q2
    rw [if_pos rfl]
    refine wpAny_passesOwn hp (thn (hb pins s2 σ1 H2 _ I2 q2) fun f s3 q3 => ?_)
    cases f with
    | next =>
      obtain ⟨σ3, H3, I3, n3⟩ := q3
      obtain ⟨m', hm, w3⟩ := hN σ3 H3 n3
      exact ⟨m', hm, σ3, H3, I3, w3⟩
    | cont =>
      obtain ⟨σ3, H3, I3, n3⟩ := q3
      obtain ⟨m', hm, w3⟩ := hN σ3 H3 n3
      exact ⟨m', hm, σ3, H3, I3, w3⟩
    | brk => exact q3
    | ret v => exact q3
  | false =>
    rw [if_neg Bool.false_ne_true]
    exact wpAny_execs_nil ⟨σ1, H2, I2, q2⟩
end

/-! ### what a loop or a comprehension walks -/
/-- at turn i: it yields x (the heap may grow), or it stops -/
structure It where
  go : Nat → Hp → Prop
  yld : Nat → Hp → V → Hp → Prop
  stop : Nat → Hp → Prop
/-- the iterator's own objects may turn: they are not the frame's, not pinned, younger than the entry (or a comprehension's own) -/
def FpOk (X : Cx) (pins : List (Addr × Obj)) (H : Hp) (b : Addr) : Prop :=
  H b = none ∧ b ≠ X.env.locals ∧ b ∉ X.fs ∧ (b ∈ X.ex ∨ X.s₀.heap.objs.size ≤ b) ∧ (∀ x c, X.env.cells.lookup x = some c → c ≠ b) ∧ ∀ p ∈ X.pn ++ pins, p.1 ≠ b
theorem Inv.fpOk {X : Cx} {pins : List (Addr × Obj)} {σ : St} {H H' : Hp} {s : Shared} {b : Addr} (I : Inv X pins σ H s) (hb : s.heap.objs.size ≤ b) (hn : H' b = none) : FpOk X pins H' b := by
  refine ⟨hn, Nat.ne_of_gt (Nat.lt_of_lt_of_le I.lt hb), I.nofs hb, .inr (Nat.le_trans I.sz hb), fun x c e z => ?_, fun p hp z => ?_⟩
  · obtain ⟨v, q⟩ := I.cell x c e
    exact absurd (Nat.lt_of_lt_of_le q.lt (by rw [z]; exact hb)) (Nat.lt_irrefl _)
  · exact absurd (Nat.lt_of_lt_of_le (Heap.lt_size (I.pin p hp).1) (by rw [z]; exact hb)) (Nat.lt_irrefl _)
structure Turn (P : Program) (w : World) (K : PySem.W.Frag) (tg : Expr) (J : It) (fp : List Addr) (it : Addr) (tn : Nat → Heap → Prop) : Prop where
  mem : it ∈ fp
  obj : ∀ i h, tn i h → ∀ b ∈ fp, ∃ o, h.get? b = some o ∧ ∀ v, o.data ≠ .cell v
  keep : ∀ i h h', tn i h → (∀ b ∈ fp, ∀ o, h.get? b = some o → h'.get? b = some o) → tn i h'
  item : ∀ (X : Cx), X.prog = P → X.w = w → X.K = K → X.calm = true → ∀ (i : Nat) (pins : List (Addr × Obj)) (s : Shared) (σ : St) (H : Hp) (E : Value → Shared → Prop), Inv X pins σ H s → (∀ b ∈ fp, FpOk X pins H b) → tn i s.heap → J.go i H →
    wpAny (model P w) X.A (pyNext (.ref it)) (fun r s1 => ∃ u, r = some u ∧
      wpAny (model P w) X.A (letOwnedTupleGo tg (.ref it) u) (fun _ s2 => ∃ x H', Inv X pins σ H' s2 ∧ RelV x u ∧ J.yld i H x H' ∧ tn (i + 1) s2.heap ∧ ∀ b ∈ fp, H' b = none) E s1) E s
  done : ∀ (X : Cx), X.prog = P → X.w = w → X.K = K → X.calm = true → ∀ (i : Nat) (pins : List (Addr × Obj)) (s : Shared) (σ : St) (H : Hp) (E : Value → Shared → Prop), Inv X pins σ H s → (∀ b ∈ fp, FpOk X pins H b) → tn i s.heap → J.stop i H →
    wpAny (model P w) X.A (pyNext (.ref it)) (fun r s1 => r = none ∧ Inv X pins σ H s1) E s
  self : ∀ (A : Around) (i : Nat) (s : Shared) (Q : Value → Shared → Prop) (E : Value → Shared → Prop), tn i s.heap → Q (.ref it) s → wpAny (model P w) A (pyIter (.ref it)) Q E s
abbrev TI := St → Hp → (It → Hp → Prop) → Prop
/-- an iterator has come -/
def PIE (X : Cx) (pins : List (Addr × Obj)) (σ : St) (tg : Expr) (R : It → Hp → Prop) (itv : Value) (s2 : Shared) : Prop :=
  ∃ (it : Addr) (fp : List Addr) (tn : Nat → Heap → Prop) (J : It) (H' : Hp), itv = .ref it ∧ Inv X pins σ H' s2 ∧ Turn X.prog X.w X.K tg J fp it tn ∧ tn 0 s2.heap ∧ (∀ b ∈ fp, FpOk X pins H' b) ∧ R J H'
def PI (X : Cx) (tg iter : Expr) (wi : TI) : Prop :=
  ∀ (pins : List (Addr × Obj)) (s : Shared) (σ : St) (H : Hp) (R : It → Hp → Prop), Inv X pins σ H s → wi σ H R →
    wpAny (model X.prog X.w) X.A (eval iter X.env) (fun v s1 => wpAny (model X.prog X.w) X.A (pyIter v) (PIE X pins σ tg R) X.xe s1) X.xe s

/-- the step ahead of the store is nothing for an iterator that keeps no tuple -/
theorem go_of {M : Model} {A : Around} {E : Value → Shared → Prop} {s : Shared} {tg : Expr} {it : Addr} {u : Value} {o : Obj} {n : String} {vs : Array Value} {Q : Unit → Shared → Prop} (ho : s.heap.get? it = some o) (hc : o.cls = .type n) (hd : o.data = .fields vs)
    (hn : ["enumerate", "zip", "dict_itemiterator", "dict_reverseitemiterator", "odict_iterator", "itertools.zip_longest", "itertools.pairwise"].contains n = false) (hQ : Q () s) : wpAny M A (letOwnedTupleGo tg (.ref it) u) Q E s := by
  unfold letOwnedTupleGo
  cases tg <;> first
    | exact wpAny_pure hQ
    | (cases u <;> first
        | exact wpAny_pure hQ
        | (refine wpAny_bind (wpAny_load ho ?_)
           rw [hc, hd]
           show wpAny M A (if (["enumerate", "zip", "dict_itemiterator", "dict_reverseitemiterator", "odict_iterator", "itertools.zip_longest", "itertools.pairwise"].contains n && vs[0]? == some (rawInt _)) = true then _ else _) Q E s
           rw [if_neg (by intro h; rw [hn, Bool.false_and] at h; cases h)]
           exact wpAny_pure hQ))

/-- the list at a, as it stands at each turn (a loop may append to it) -/
def Itl (K : PySem.W.Frag) (a : Addr) : It :=
  ⟨fun i H => ∃ xs x, SqL K H a xs ∧ xs[i]? = some x, fun i H x H' => H' = H ∧ ∀ xs, SqL K H a xs → xs[i]? = some x, fun i H => ∃ xs, SqL K H a xs ∧ xs.length ≤ i⟩
def Itt (K : PySem.W.Frag) (a : Addr) : It :=
  ⟨fun i H => ∃ xs x, SqT K H a xs ∧ xs[i]? = some x, fun i H x H' => H' = H ∧ ∀ xs, SqT K H a xs → xs[i]? = some x, fun i H => ∃ xs, SqT K H a xs ∧ xs.length ≤ i⟩
/-- lo, lo + 1, .. (n of them) -/
def Itr (lo : Int) (n : Nat) : It := ⟨fun i _ => i < n, fun i H x H' => H' = H ∧ x = .int (lo + i), fun i _ => n ≤ i⟩
theorem turn_list {P : Program} {w : World} {K : PySem.W.Frag} {tg : Expr} (a it : Addr) : Turn P w K tg (Itl K a) [it] it (fun i h => h.IsListIter it a i) where
  mem := by simp
  obj := fun i h st b hb => by
    have e : b = it := by simpa using hb
    subst e
    obtain ⟨o, e, c, d⟩ := st
    exact ⟨o, e, fun v z => by rw [d] at z; cases z⟩
  keep := fun i h h' st k => st.at fun o e => k it (by simp) o e
  item := by
    intro X hP hw hK hc i pins s σ H E I hf st hg
    subst hP hw hK
    obtain ⟨xs, x, hq, hx⟩ := hg
    obtain ⟨its, rv, p, hz⟩ := I.list hq
    obtain ⟨u, hu, ru⟩ := rv.get hx
    obtain ⟨f0, f1, f2, f3, f4, f5⟩ := hf it (by simp)
    refine wpAny_pyNext_list_item st p.isList (x := u) (by simpa using hu) fun h' st' sb => ?_
    have I1 : Inv X pins σ H { s with heap := h' } := I.turned (t' := s.toks) (fun b o hb e => (sb.2 b hb).trans e) f0 f1 f3 f4 f5
    obtain ⟨o, e, c, d⟩ := id st'
    exact ⟨u, rfl, go_of (s := { s with heap := h' }) e c d (by decide) ⟨x, H, I1, ru, ⟨rfl, fun ys hy => by rw [I.list_inj hy hq]; exact hx⟩, st', fun b hb => (hf b hb).1⟩⟩
  done := by
    intro X hP hw hK hc i pins s σ H E I hf st hg
    subst hP hw hK
    obtain ⟨xs, hq, hx⟩ := hg
    obtain ⟨its, rv, p, hz⟩ := I.list hq
    obtain ⟨f0, f1, f2, f3, f4, f5⟩ := hf it (by simp)
    have hl := rv.length
    exact wpAny_pyNext_list_end (I.ok.hd hc) st p.isList (by simp; omega) fun h' eb => ⟨rfl, I.turned (t' := s.toks) (fun b o hb e => eb b o hb e) f0 f1 f3 f4 f5⟩
  self := fun _ _ _ _ _ st h => wpAny_pyIter_listiter st h
theorem turn_tuple {P : Program} {w : World} {K : PySem.W.Frag} {tg : Expr} (a it : Addr) : Turn P w K tg (Itt K a) [it] it (fun i h => h.IsTupleIter it a i) where
  mem := by simp
  obj := fun i h st b hb => by
    have e : b = it := by simpa using hb
    subst e
    obtain ⟨o, e, c, d⟩ := st
    exact ⟨o, e, fun v z => by rw [d] at z; cases z⟩
  keep := fun i h h' st k => st.at fun o e => k it (by simp) o e
  item := by
    intro X hP hw hK hc i pins s σ H E I hf st hg
    subst hP hw hK
    obtain ⟨xs, x, hq, hx⟩ := hg
    obtain ⟨its, rv, p, hz⟩ := I.tuple hq
    obtain ⟨u, hu, ru⟩ := rv.get hx
    obtain ⟨f0, f1, f2, f3, f4, f5⟩ := hf it (by simp)
    refine wpAny_pyNext_tuple_item st (show s.heap.IsTuple a its.toArray from p) (x := u) (by simpa using hu) fun h' st' sb => ?_
    have I1 : Inv X pins σ H { s with heap := h' } := I.turned (t' := s.toks) (fun b o hb e => (sb.2 b hb).trans e) f0 f1 f3 f4 f5
    obtain ⟨o, e, c, d⟩ := id st'
    exact ⟨u, rfl, go_of (s := { s with heap := h' }) e c d (by decide) ⟨x, H, I1, ru, ⟨rfl, fun ys hy => by rw [I.tuple_inj hy hq]; exact hx⟩, st', fun b hb => (hf b hb).1⟩⟩
  done := by
    intro X hP hw hK hc i pins s σ H E I hf st hg
    subst hP hw hK
    obtain ⟨xs, hq, hx⟩ := hg
    obtain ⟨its, rv, p, hz⟩ := I.tuple hq
    obtain ⟨f0, f1, f2, f3, f4, f5⟩ := hf it (by simp)
    have hl := rv.length
    exact wpAny_pyNext_tuple_end (I.ok.hd hc) st (show s.heap.IsTuple a its.toArray from p) (by simp; omega) fun h' eb => ⟨rfl, I.turned (t' := s.toks) (fun b o hb e => eb b o hb e) f0 f1 f3 f4 f5⟩
  self := fun _ _ _ _ _ st h => wpAny_pyIter_tupleiter st h
theorem turn_range {P : Program} {w : World} {K : PySem.W.Frag} {tg : Expr} (it : Addr) (lo : Int) (n : Nat) : Turn P w K tg (Itr lo n) [it] it (fun i h => IsRangeIter h it (lo + (i : Nat) * 1) ((n : Int) - (i : Nat)) 1) where
  mem := by simp
  obj := fun i h st b hb => by
    have e : b = it := by simpa using hb
    subst e
    exact ⟨_, st, fun v z => by
      have z' : Data.fields _ = Data.cell v := z
      cases z'⟩
  keep := fun i h h' st k => k it (by simp) _ st
  item := by
    intro X hP hw hK hc i pins s σ H E I hf st hg
    subst hP hw hK
    obtain ⟨f0, f1, f2, f3, f4, f5⟩ := hf it (by simp)
    have W := Walks.range (prog := X.prog) (w := X.w) (I.ok.hd hc) it lo 1 n
    refine W.item i s _ _ hg st fun v h' tk hv st' kk => ?_
    obtain ⟨t, rfl⟩ := hv
    have I1 : Inv X pins σ H { s with heap := h', toks := tk } := I.turned (fun b o hb e => kk b o (by simpa using hb) e) f0 f1 f3 f4 f5
    refine ⟨_, rfl, go_of (s := { s with heap := h', toks := tk }) (n := "range_iterator") st' rfl rfl (by decide) ⟨.int (lo + i), H, I1, ⟨t, ?_⟩, ⟨rfl, rfl⟩, st', fun b hb => (hf b hb).1⟩⟩
    rw [Int.mul_one]
  done := by
    intro X hP hw hK hc i pins s σ H E I hf st hg
    subst hP hw hK
    obtain ⟨f0, f1, f2, f3, f4, f5⟩ := hf it (by simp)
    exact wpAny_pyNext_range_end (I.ok.hd hc) st (by have : n ≤ i := hg; omega) fun h' eb => ⟨rfl, I.turned (t' := s.toks) (fun b o hb e => eb b o hb e) f0 f1 f3 f4 f5⟩
  self := fun _ _ _ _ _ st h => wpAny_pyIter_rangeiter st h
end L2

namespace L2
open PySem PySem.Spec PyProof.Rows
section
variable {X : Cx} {tg : Expr}
def iList (K : PySem.W.Frag) (tl : TE) : TI := fun σ H R => tl σ H fun x H1 => ∃ a, x = .ref a ∧ (∃ xs, SqL K H1 a xs) ∧ R (Itl K a) H1
def iTup (K : PySem.W.Frag) (tl : TE) : TI := fun σ H R => tl σ H fun x H1 => ∃ a, x = .ref a ∧ (∃ xs, SqT K H1 a xs) ∧ R (Itt K a) H1
theorem pi_list {l : Expr} {tl : TE} (hl : PE X l tl) : PI X tg l (iList X.K tl) := by
  intro pins s σ H R I h
  refine thn (hl pins s σ H _ I h) fun v s1 ⟨x, H1, I1, r1, q1⟩ => ?_
  obtain ⟨a, e, ⟨xs, hq⟩, q⟩ := q1
  subst e
  cases r1
  obtain ⟨its, rv, p, hz⟩ := I1.list hq
  refine wpAny_pyIter_list p.isList ?_
  refine ⟨s1.heap.objs.size, [s1.heap.objs.size], _, _, H1, rfl, I1.kept (t' := s1.toks) fun b o e => Heap.get?_push_of_some _ e, turn_list a _, ⟨_, Heap.get?_push_size _ rfl, rfl, rfl⟩, fun b hb => ?_, q⟩
  have e : b = s1.heap.objs.size := by simpa using hb
  subst e
  exact I1.fpOk (Nat.le_refl _) (I1.hok.fresh (Nat.le_refl _))
theorem pi_tup {l : Expr} {tl : TE} (hl : PE X l tl) : PI X tg l (iTup X.K tl) := by
  intro pins s σ H R I h
  refine thn (hl pins s σ H _ I h) fun v s1 ⟨x, H1, I1, r1, q1⟩ => ?_
  obtain ⟨a, e, ⟨xs, hq⟩, q⟩ := q1
  subst e
  cases r1
  obtain ⟨its, rv, p, hz⟩ := I1.tuple hq
  refine wpAny_pyIter_tuple (show s1.heap.IsTuple a its.toArray from p) ?_
  refine ⟨s1.heap.objs.size, [s1.heap.objs.size], _, _, H1, rfl, I1.kept (t' := s1.toks) fun b o e => Heap.get?_push_of_some _ e, turn_tuple a _, ⟨_, Heap.get?_push_size _ rfl, rfl, rfl⟩, fun b hb => ?_, q⟩
  have e : b = s1.heap.objs.size := by simpa using hb
  subst e
  exact I1.fpOk (Nat.le_refl _) (I1.hok.fresh (Nat.le_refl _))
/-- a range object just made, walked -/
theorem range_it {pins : List (Addr × Obj)} {σ : St} {H : Hp} {s : Shared} {R : It → Hp → Prop} {E : Value → Shared → Prop} {lo hi : Int} {t u v : Tok} {tk : Nat} (I : Inv X pins σ H s) (h1 : -(2 ^ 62) ≤ lo) (h2 : lo < 2 ^ 62) (h3 : -(2 ^ 62) ≤ hi) (h4 : hi < 2 ^ 62)
    (q : R (Itr lo (hi - lo).toNat) H) : wpAny (model X.prog X.w) X.A (pyIter (.ref s.heap.objs.size)) (PIE X pins σ tg R) E { s with heap := s.heap.push { cls := .type "range", data := .fields #[.int lo t, .int hi u, .int 1 v] }, toks := tk } := by
  refine wpAny_pyIter_range (IsRange.new ..) (small_one h1 h2 h3 h4) ?_
  have I1 : Inv X pins σ H { s with heap := s.heap.push { cls := .type "range", data := .fields #[.int lo t, .int hi u, .int 1 v] }, toks := tk } := I.kept fun b o e => Heap.get?_push_of_some _ e
  refine ⟨(s.heap.push { cls := .type "range", data := .fields #[.int lo t, .int hi u, .int 1 v] }).objs.size, [(s.heap.push { cls := .type "range", data := .fields #[.int lo t, .int hi u, .int 1 v] }).objs.size], _, _, H, rfl,
    I1.kept (t' := tk) fun b o e => Heap.get?_push_of_some _ e, turn_range _ lo (hi - lo).toNat, ?_, fun b hb => ?_, q⟩
  · have e1 : lo + ((0 : Nat) : Int) * 1 = lo := by simp
    have e2 : (((hi - lo).toNat : Nat) : Int) - ((0 : Nat) : Int) = Builtin.Range.rangeSize lo hi 1 := by rw [rangeSize_one]; split <;> omega
    show IsRangeIter _ _ (lo + ((0 : Nat) : Int) * 1) ((((hi - lo).toNat : Nat) : Int) - ((0 : Nat) : Int)) 1
    rw [e1, e2]
    exact Heap.get?_push_size _ rfl
  · have e : b = (s.heap.push { cls := .type "range", data := .fields #[.int lo t, .int hi u, .int 1 v] }).objs.size := by simpa using hb
    subst e
    exact I1.fpOk (Nat.le_refl _) (I1.hok.fresh (Nat.le_refl _))
def iRng1 (ta : TA) : TI := fun σ H R => ta σ H fun vs H1 => ∃ j : Int, vs = [.int j] ∧ -(2 ^ 62) ≤ j ∧ j < 2 ^ 62 ∧ R (Itr 0 j.toNat) H1
def iRng2 (ta : TA) : TI := fun σ H R => ta σ H fun vs H1 => ∃ i j : Int, vs = [.int i, .int j] ∧ (-(2 ^ 62) ≤ i ∧ i < 2 ^ 62 ∧ -(2 ^ 62) ≤ j ∧ j < 2 ^ 62) ∧ R (Itr i (j - i).toNat) H1
theorem pi_range1 {a : Expr} {ta : TA} {p pos : Pos} (hg : Gl X "range") (hm : X.mg "range" = none) (ha : PA X [a] ta) (hs : starEach [a] X.env = [(false, eval a X.env)] := by rfl) : PI X tg (.Call (.Name "range" p) [a] [] pos) (iRng1 ta) := by
  intro pins s σ H R I h
  refine Call_ (ld_blt I hg hm boot_range (PyProof.Rows.callWith_type1 (thn (ha pos pins s σ H _ I h) fun us s1 ⟨vs, H1, I1, r1, q1⟩ => ?_) hs rfl))
  obtain ⟨j, e, q1, q2, q⟩ := q1
  subst e
  cases r1 with
  | cons r rr =>
    cases rr
    obtain ⟨t, rfl⟩ := r
    exact call_range_1 (range_it I1 (by omega) (by omega) q1 q2 (by simpa using q))
theorem pi_range2 {a b : Expr} {ta : TA} {p pos : Pos} (hg : Gl X "range") (hm : X.mg "range" = none) (ha : PA X [a, b] ta) (hs : starEach [a, b] X.env = [(false, eval a X.env), (false, eval b X.env)] := by rfl) (hs2 : starEach [b] X.env = [(false, eval b X.env)] := by rfl) :
    PI X tg (.Call (.Name "range" p) [a, b] [] pos) (iRng2 ta) := by
  intro pins s σ H R I h
  refine Call_ (ld_blt I hg hm boot_range (PyProof.Rows.callWith_type1 (thn (ha pos pins s σ H _ I h) fun us s1 ⟨vs, H1, I1, r1, q1⟩ => ?_) (by rw [hs, hs2]) (by rw [hs2]; rfl)))
  obtain ⟨i, j, e, ⟨q1, q2, q3, q4⟩, q⟩ := q1
  subst e
  cases r1 with
  | cons r rr =>
    cases rr with
    | cons r' rr =>
      cases rr
      obtain ⟨t, rfl⟩ := r
      obtain ⟨t', rfl⟩ := r'
      exact call_range_2 (range_it I1 q1 q2 q3 q4 q)

/-! ### for -/
/-- W: the invariant by the turn and a measure; N: what the body is to reach -/
def tFor (wi : TI) (g : TG) (tb : TS) : TS := fun D σ H => wi σ H fun J H1 => ∃ W : Nat → Nat → St → Hp → Prop, (∃ m, W 0 m σ H1) ∧ ∀ i m σ H, W i m σ H →
  (J.stop i H ∧ D.nx σ H) ∨ (J.go i H ∧ ∃ N : St → Hp → Prop, (∀ σ' H', N σ' H' → ∃ m', m' < m ∧ W (i + 1) m' σ' H') ∧ ∀ x H', J.yld i H x H' → g x σ H' fun σ2 H2 => tb { D with nx := N, ct := N, bk := D.nx } σ2 H2)
/-- the records at fp as they stand -/
def pinsAt (fp : List Addr) (h : Heap) : List (Addr × Obj) := fp.filterMap fun b => (h.get? b).map fun o => (b, o)
theorem mem_pinsAt {fp : List Addr} {h : Heap} {b : Addr} {o : Obj} (hb : b ∈ fp) (e : h.get? b = some o) : (b, o) ∈ pinsAt fp h := List.mem_filterMap.mpr ⟨b, hb, by rw [e]; rfl⟩
theorem of_pinsAt {fp : List Addr} {h : Heap} {p : Addr × Obj} (hp : p ∈ pinsAt fp h) : p.1 ∈ fp ∧ h.get? p.1 = some p.2 := by
  obtain ⟨b, hb, e⟩ := List.mem_filterMap.mp hp
  cases q : h.get? b with
  | none => rw [q] at e; cases e
  | some o =>
    rw [q] at e
    have e' : (b, o) = p := Option.some.inj e
    subst e'
    exact ⟨hb, q⟩
theorem Inv.pinned {pins : List (Addr × Obj)} {σ : St} {H : Hp} {s : Shared} {fp : List Addr} (I : Inv X pins σ H s) (hf : ∀ b ∈ fp, FpOk X pins H b) (ho : ∀ b ∈ fp, ∃ o, s.heap.get? b = some o ∧ ∀ v, o.data ≠ .cell v) : Inv X (pins ++ pinsAt fp s.heap) σ H s :=
  I.pins_of fun p hp => (List.mem_append.mp hp).elim (fun z => I.pin p (List.mem_append_right _ z)) fun z => by
    obtain ⟨hb, e⟩ := of_pinsAt z
    obtain ⟨f0, f1, f2, _⟩ := hf p.1 hb
    obtain ⟨o, e', d⟩ := ho p.1 hb
    rw [e] at e'; cases e'
    exact ⟨e, f0, f1, f2, d⟩
theorem Inv.unpinned {pins pl : List (Addr × Obj)} {σ : St} {H : Hp} {s : Shared} (I : Inv X (pins ++ pl) σ H s) : Inv X pins σ H s := I.pins_of fun p hp => I.pin p (List.mem_append_right _ (List.mem_append_left _ hp))
theorem ps_for {iter : Expr} {body : List Stmt} {wi : TI} {g : TG} {tb : TS} {pos : Pos} (hp : PassesOwn (model X.prog X.w) X.A X.env X.xe) (hc : X.calm = true) (hi : PI X tg iter wi) (hg : PG X tg g) (hb : PSs X body tb)
    (hs : ∀ x, foldedSetIterable iter X.env x = pure x := by intro _; rfl) : PS X (.For tg iter body [] pos) (tFor wi g tb) := by
  intro pins s σ H D I h
  refine wpAny_For (thn (hi pins s σ H _ I h) fun v s1 h1 => thn h1 fun itv s2 h2 => ?_) hs
  obtain ⟨it, fp, tn, J, H2, e, I2, T, st2, f2, W, ⟨m0, w0⟩, turn⟩ := h2
  subst e
  -- what stays true of the iterator's objects through the loop
  have stat : ∀ {H' : Hp}, (∀ b ∈ fp, H' b = none) → ∀ b ∈ fp, FpOk X pins H' b := fun hn b hb => ⟨hn b hb, (f2 b hb).2⟩
  refine codeAny_forLoop_any (fun n s' => ∃ i σ' H', Inv X pins σ' H' s' ∧ tn i s'.heap ∧ (∀ b ∈ fp, H' b = none) ∧ W i n σ' H') ?_ m0 ⟨0, σ, H2, I2, st2, fun b hb => (f2 b hb).1, w0⟩
  rintro n s3 ⟨i, σ3, H3, I3, st3, fr3, w3⟩
  rcases turn i n σ3 H3 w3 with ⟨stop, qn⟩ | ⟨go, N, hN, step⟩
  · refine wpAny_passesOwn hp (thn (T.done X rfl rfl rfl hc i pins s3 σ3 H3 X.xe I3 (stat fr3) st3 stop) fun r s4 ⟨hr, I4⟩ => ?_)
    subst hr
    exact wpAny_execs_nil ⟨σ3, H3, I4, qn⟩
  · refine wpAny_passesOwn hp (thn (T.item X rfl rfl rfl hc i pins s3 σ3 H3 X.xe I3 (stat fr3) st3 go) fun r s4 ⟨u, hr, h4⟩ => ?_)
    subst hr
    refine wpAny_passesOwn hp (thn h4 fun _ s5 ⟨x, H5, I5, r5, y5, st5, fr5⟩ => ?_)
    have I5' := I5.pinned (stat fr5) (T.obj _ _ st5)
    refine wpAny_passesOwn hp (thn (hg _ s5 σ3 H5 x u _ I5' r5 (step x H5 y5)) fun _ s6 ⟨σ6, H6, I6, q6⟩ => ?_)
    refine wpAny_passesOwn hp (thn (hb _ s6 σ6 H6 _ I6 q6) fun f s7 q7 => ?_)
    have again : ∀ {σ7 : St} {H7 : Hp}, Inv X (pins ++ pinsAt fp s5.heap) σ7 H7 s7 → N σ7 H7 → ∃ m, m < n ∧ ∃ i σ' H', Inv X pins σ' H' s7 ∧ tn i s7.heap ∧ (∀ b ∈ fp, H' b = none) ∧ W i m σ' H' := fun {σ7 H7} I7 n7 => by
      obtain ⟨m', hm, w7⟩ := hN σ7 H7 n7
      refine ⟨m', hm, i + 1, σ7, H7, I7.unpinned, T.keep _ _ _ st5 fun b hb o e => (I7.pin (b, o) (List.mem_append_right _ (List.mem_append_right _ (mem_pinsAt hb e)))).1, fun b hb => ?_, w7⟩
      obtain ⟨o, e, d⟩ := T.obj _ _ st5 b hb
      exact (I7.pin (b, o) (List.mem_append_right _ (List.mem_append_right _ (mem_pinsAt hb e)))).2.1
    cases f with
    | next => obtain ⟨σ7, H7, I7, n7⟩ := q7; exact again I7 n7
    | cont => obtain ⟨σ7, H7, I7, n7⟩ := q7; exact again I7 n7
    | brk => obtain ⟨σ7, H7, I7, q7⟩ := q7; exact ⟨σ7, H7, I7.unpinned, q7⟩
    | ret v => obtain ⟨x7, σ7, H7, I7, r7, q7⟩ := q7; exact ⟨x7, σ7, H7, I7.unpinned, r7, q7⟩
end

/-! ### the forms one uses -/
/-- over a list that the body leaves as it is -/
theorem for_list {K : PySem.W.Frag} {a : Addr} {xs : List V} {g : TG} {tb : TS} {D : Ends} {σ : St} {H : Hp} (Pv : Nat → St → Hp → Prop) (h0 : Pv 0 σ H) (hl : ∀ i σ H, i ≤ xs.length → Pv i σ H → SqL K H a xs)
    (hs : ∀ i x σ H, xs[i]? = some x → Pv i σ H → g x σ H fun σ2 H2 => tb { D with nx := Pv (i + 1), ct := Pv (i + 1), bk := D.nx } σ2 H2) (hd : ∀ σ H, Pv xs.length σ H → D.nx σ H) :
    ∃ W : Nat → Nat → St → Hp → Prop, (∃ m, W 0 m σ H) ∧ ∀ i m σ H, W i m σ H →
      ((Itl K a).stop i H ∧ D.nx σ H) ∨ ((Itl K a).go i H ∧ ∃ N : St → Hp → Prop, (∀ σ' H', N σ' H' → ∃ m', m' < m ∧ W (i + 1) m' σ' H') ∧ ∀ x H', (Itl K a).yld i H x H' → g x σ H' fun σ2 H2 => tb { D with nx := N, ct := N, bk := D.nx } σ2 H2) := by
  refine ⟨fun i m σ H => m = xs.length - i ∧ i ≤ xs.length ∧ Pv i σ H, ⟨xs.length, by simp, Nat.zero_le _, h0⟩, ?_⟩
  rintro i m σ H ⟨rfl, hi, p⟩
  have q := hl i σ H hi p
  by_cases hlt : i < xs.length
  · refine .inr ⟨⟨xs, xs[i], q, by simp [hlt]⟩, Pv (i + 1), fun σ' H' p' => ⟨xs.length - (i + 1), by omega, rfl, hlt, p'⟩, fun x H' y => ?_⟩
    obtain ⟨e, y⟩ := y
    subst e
    exact hs i x σ _ (y xs q) p
  · have e : i = xs.length := by omega
    subst e
    exact .inl ⟨⟨xs, q, Nat.le_refl _⟩, hd σ H p⟩
theorem for_tup {K : PySem.W.Frag} {a : Addr} {xs : List V} {g : TG} {tb : TS} {D : Ends} {σ : St} {H : Hp} (Pv : Nat → St → Hp → Prop) (h0 : Pv 0 σ H) (hl : ∀ i σ H, i ≤ xs.length → Pv i σ H → SqT K H a xs)
    (hs : ∀ i x σ H, xs[i]? = some x → Pv i σ H → g x σ H fun σ2 H2 => tb { D with nx := Pv (i + 1), ct := Pv (i + 1), bk := D.nx } σ2 H2) (hd : ∀ σ H, Pv xs.length σ H → D.nx σ H) :
    ∃ W : Nat → Nat → St → Hp → Prop, (∃ m, W 0 m σ H) ∧ ∀ i m σ H, W i m σ H →
      ((Itt K a).stop i H ∧ D.nx σ H) ∨ ((Itt K a).go i H ∧ ∃ N : St → Hp → Prop, (∀ σ' H', N σ' H' → ∃ m', m' < m ∧ W (i + 1) m' σ' H') ∧ ∀ x H', (Itt K a).yld i H x H' → g x σ H' fun σ2 H2 => tb { D with nx := N, ct := N, bk := D.nx } σ2 H2) := by
  refine ⟨fun i m σ H => m = xs.length - i ∧ i ≤ xs.length ∧ Pv i σ H, ⟨xs.length, by simp, Nat.zero_le _, h0⟩, ?_⟩
  rintro i m σ H ⟨rfl, hi, p⟩
  have q := hl i σ H hi p
  by_cases hlt : i < xs.length
  · refine .inr ⟨⟨xs, xs[i], q, by simp [hlt]⟩, Pv (i + 1), fun σ' H' p' => ⟨xs.length - (i + 1), by omega, rfl, hlt, p'⟩, fun x H' y => ?_⟩
    obtain ⟨e, y⟩ := y
    subst e
    exact hs i x σ _ (y xs q) p
  · have e : i = xs.length := by omega
    subst e
    exact .inl ⟨⟨xs, q, Nat.le_refl _⟩, hd σ H p⟩
theorem for_range {lo : Int} {n : Nat} {g : TG} {tb : TS} {D : Ends} {σ : St} {H : Hp} (Pv : Nat → St → Hp → Prop) (h0 : Pv 0 σ H)
    (hs : ∀ i σ H, i < n → Pv i σ H → g (.int (lo + i)) σ H fun σ2 H2 => tb { D with nx := Pv (i + 1), ct := Pv (i + 1), bk := D.nx } σ2 H2) (hd : ∀ σ H, Pv n σ H → D.nx σ H) :
    ∃ W : Nat → Nat → St → Hp → Prop, (∃ m, W 0 m σ H) ∧ ∀ i m σ H, W i m σ H →
      ((Itr lo n).stop i H ∧ D.nx σ H) ∨ ((Itr lo n).go i H ∧ ∃ N : St → Hp → Prop, (∀ σ' H', N σ' H' → ∃ m', m' < m ∧ W (i + 1) m' σ' H') ∧ ∀ x H', (Itr lo n).yld i H x H' → g x σ H' fun σ2 H2 => tb { D with nx := N, ct := N, bk := D.nx } σ2 H2) := by
  refine ⟨fun i m σ H => m = n - i ∧ i ≤ n ∧ Pv i σ H, ⟨n, by simp, Nat.zero_le _, h0⟩, ?_⟩
  rintro i m σ H ⟨rfl, hi, p⟩
  by_cases hlt : i < n
  · refine .inr ⟨hlt, Pv (i + 1), fun σ' H' p' => ⟨n - (i + 1), by omega, rfl, hlt, p'⟩, fun x H' y => ?_⟩
    obtain ⟨e, y⟩ := y
    subst e y
    exact hs i σ _ hlt p
  · have e : i = n := by omega
    subst e
    exact .inl ⟨Nat.le_refl _, hd σ H p⟩
/-- while, by a word and a measure of the state -/
theorem while_by {c : TT} {tb : TS} {D : Ends} {σ : St} {H : Hp} (Pv : St → Hp → Prop) (μ : St → Hp → Nat) (h0 : Pv σ H)
    (hs : ∀ σ H, Pv σ H → c σ H fun b H1 => if b = true then tb { D with nx := fun σ' H' => Pv σ' H' ∧ μ σ' H' < μ σ H, ct := fun σ' H' => Pv σ' H' ∧ μ σ' H' < μ σ H, bk := D.nx } σ H1 else D.nx σ H1)
    (mono : ∀ σ H Q Q', (∀ b H1, Q b H1 → Q' b H1) → c σ H Q → c σ H Q') : tWhile c tb D σ H := by
  refine ⟨fun m σ H => m = μ σ H ∧ Pv σ H, ⟨_, rfl, h0⟩, ?_⟩
  rintro m σ H ⟨rfl, p⟩
  refine mono σ H _ _ (fun b H1 q => ?_) (hs σ H p)
  cases b with
  | true => exact ⟨_, fun σ' H' ⟨p', l⟩ => ⟨_, l, rfl, p'⟩, q⟩
  | false => exact q
end L2

namespace L2
open PySem PySem.Spec PyProof.Rows

abbrev R2 := V → V → Hp → VK → Prop
/-- a two-place operation on values: f is binaryOp op, inplaceOp op or compareOp op -/
def OpR (X : Cx) (f : Value → Value → Sem Value) (r : R2) : Prop :=
  ∀ (pins : List (Addr × Obj)) (s : Shared) (σ : St) (H : Hp) (x y : V) (v u : Value) (Q : VK), Inv X pins σ H s → RelV x v → RelV y u → r x y H Q →
    wpAny (model X.prog X.w) X.A (f v u) (EP X pins σ Q) X.xe s
/-- a one-place operation -/
def UnR (X : Cx) (f : Value → Sem Value) (r : V → Hp → VK → Prop) : Prop :=
  ∀ (pins : List (Addr × Obj)) (s : Shared) (σ : St) (H : Hp) (x : V) (v : Value) (Q : VK), Inv X pins σ H s → RelV x v → r x H Q →
    wpAny (model X.prog X.w) X.A (f v) (EP X pins σ Q) X.xe s
/-- a call of a value that is known (a builtin, a type) with values -/
def CallR (X : Cx) (f : Value) (r : List V → Hp → VK → Prop) : Prop :=
  ∀ (pins : List (Addr × Obj)) (s : Shared) (σ : St) (H : Hp) (xs : List V) (us : List Value) (Q : VK), Inv X pins σ H s → Vals xs us → r xs H Q →
    wpAny (model X.prog X.w) X.A (call f us) (EP X pins σ Q) X.xe s
def tOp (r : R2) (ta tb : TE) : TE := fun σ H Q => ta σ H fun x H1 => tb σ H1 fun y H2 => r x y H2 Q
def tUn (r : V → Hp → VK → Prop) (ta : TE) : TE := fun σ H Q => ta σ H fun x H1 => r x H1 Q
/-- ints in, under C, and a value out -/
def rI (C : Int → Int → Prop) (g : Int → Int → V) : R2 := fun x y H Q => ∃ i j, x = .int i ∧ y = .int j ∧ C i j ∧ Q (g i j) H
def rI0 (g : Int → Int → V) : R2 := fun x y H Q => ∃ i j, x = .int i ∧ y = .int j ∧ Q (g i j) H
def rU (g : Int → V) : V → Hp → VK → Prop := fun x H Q => ∃ i, x = .int i ∧ Q (g i) H

section
variable {X : Cx} {a b c : Expr} {ta tb tc : TE} {pos : Pos}

theorem binT (ha : PE X a ta) (hb : PE X b tb) {pins : List (Addr × Obj)} {s : Shared} {σ : St} {H : Hp} {R : V → V → Hp → Prop} (I : Inv X pins σ H s)
    (h : ta σ H fun x H1 => tb σ H1 fun y H2 => R x y H2) {Q : Value → Shared → Prop} {f : Value → Value → Sem Value}
    (hf : ∀ v u s2 x y H2, Inv X pins σ H2 s2 → RelV x v → RelV y u → R x y H2 → wpAny (model X.prog X.w) X.A (f v u) Q X.xe s2) :
    wpAny (model X.prog X.w) X.A (eval a X.env) (fun v s₁ => wpAny (model X.prog X.w) X.A (eval b X.env) (fun u s₂ => wpAny (model X.prog X.w) X.A (f v u) Q X.xe s₂) X.xe s₁) X.xe s := by
  refine thn (ha pins s σ H _ I h) fun v s1 ⟨x, H1, I1, r1, q1⟩ => ?_
  refine thn (hb pins s1 σ H1 _ I1 q1) fun u s2 ⟨y, H2, I2, r2, q2⟩ => ?_
  exact hf v u s2 x y H2 I2 r1 r2 q2

theorem pe_op {op : Operator} {r : R2} (ho : OpR X (binaryOp op) r) (ha : PE X a ta) (hb : PE X b tb) : PE X (.BinOp a op b pos) (tOp r ta tb) := by
  intro pins s σ H Q I h
  exact wpAny_BinOp (binT ha hb I h fun v u s2 x y H2 I2 rx ry q => ho pins s2 σ H2 x y v u Q I2 rx ry q)
theorem pe_un {op : UnaryOp} {r : V → Hp → VK → Prop} (ho : UnR X (unaryOp op) r) (ha : PE X a ta) : PE X (.UnaryOp op a pos) (tUn r ta) := by
  intro pins s σ H Q I h
  exact UnaryOp_ (thn (ha pins s σ H _ I h) fun v s1 ⟨x, H1, I1, r1, q1⟩ => ho pins s1 σ H1 x v Q I1 r1 q1)
/-! ### ints -/
theorem opI {f : Value → Value → Sem Value} {C : Int → Int → Prop} {g : Int → Int → Int}
    (rule : ∀ (i j : Int) (t u : Tok) (s : Shared) (Q : Value → Shared → Prop) (E : Value → Shared → Prop), C i j → Q (.int (g i j) s.toks) { s with toks := s.toks + 1 } → wpAny (model X.prog X.w) X.A (f (.int i t) (.int j u)) Q E s) :
    OpR X f (rI C fun i j => .int (g i j)) := by
  intro pins s σ H x y v u Q I rx ry h
  obtain ⟨i, j, rfl, rfl, hc, q⟩ := h
  obtain ⟨t, rfl⟩ := rx
  obtain ⟨t', rfl⟩ := ry
  exact rule i j t t' s _ _ hc ⟨.int (g i j), H, I.tok _, ⟨_, rfl⟩, q⟩
theorem opI0 {f : Value → Value → Sem Value} {g : Int → Int → Int}
    (rule : ∀ (i j : Int) (t u : Tok) (s : Shared) (Q : Value → Shared → Prop) (E : Value → Shared → Prop), Q (.int (g i j) s.toks) { s with toks := s.toks + 1 } → wpAny (model X.prog X.w) X.A (f (.int i t) (.int j u)) Q E s) :
    OpR X f (rI0 fun i j => .int (g i j)) := by
  intro pins s σ H x y v u Q I rx ry h
  obtain ⟨i, j, rfl, rfl, q⟩ := h
  obtain ⟨t, rfl⟩ := rx
  obtain ⟨t', rfl⟩ := ry
  exact rule i j t t' s _ _ ⟨.int (g i j), H, I.tok _, ⟨_, rfl⟩, q⟩
theorem opB0 {f : Value → Value → Sem Value} {g : Int → Int → Bool}
    (rule : ∀ (i j : Int) (t u : Tok) (s : Shared) (Q : Value → Shared → Prop) (E : Value → Shared → Prop), Q (.bool (g i j)) s → wpAny (model X.prog X.w) X.A (f (.int i t) (.int j u)) Q E s) :
    OpR X f (rI0 fun i j => .bl (g i j)) := by
  intro pins s σ H x y v u Q I rx ry h
  obtain ⟨i, j, rfl, rfl, q⟩ := h
  obtain ⟨t, rfl⟩ := rx
  obtain ⟨t', rfl⟩ := ry
  exact rule i j t t' s _ _ ⟨.bl (g i j), H, I, rfl, q⟩

def CDiv (i j : Int) : Prop := 0 < j ∧ j < 1073741824
def CPow (i j : Int) : Prop := 0 ≤ j ∧ j ≤ 1000000 ∧ i.natAbs < 2 ^ 64
def CMul (i j : Int) : Prop := (-(2 ^ 64) < i ∧ i < 2 ^ 64) ∨ (-(2 ^ 64) < j ∧ j < 2 ^ 64)
theorem CMul.ok {i j : Int} (h : CMul i j) : IntMulOk i j := by
  rcases h with ⟨h1, h2⟩ | ⟨h1, h2⟩
  · exact .of_left (intBits_le_64 h1 h2)
  · exact .of_right (intBits_le_64 h1 h2)
theorem op_add : OpR X (binaryOp .Add) (rI0 fun i j => .int (i + j)) := opI0 fun _ _ _ _ _ _ _ q => add_int q
theorem op_sub : OpR X (binaryOp .Sub) (rI0 fun i j => .int (i - j)) := opI0 fun _ _ _ _ _ _ _ q => sub_int q
theorem op_mul : OpR X (binaryOp .Mult) (rI CMul fun i j => .int (i * j)) := opI fun _ _ _ _ _ _ _ hc q => mul_int q hc.ok
/-- // by a positive divisor -/
theorem op_fdiv : OpR X (binaryOp .FloorDiv) (rI CDiv fun i j => .int (i / j)) := opI fun i j _ _ _ _ _ hc q => by
  have h1 : (0 : Int) < j := hc.1
  have h2 : j < 1073741824 := hc.2
  exact floordiv_int (by omega) (by rw [Int.fdiv_eq_ediv_of_nonneg i (by omega)]; exact q) (.inl (PyProof.noPylong_small (by omega)))
/-- % by a positive divisor of any size -/
theorem op_mod : OpR X (binaryOp .Mod) (rI (fun _ j => 0 < j) fun i j => .int (i % j)) := opI fun i j _ _ _ _ _ hc q => by
  have h1 : (0 : Int) < j := hc
  exact mod_int' (by omega) (by rw [Int.fmod_eq_emod_of_nonneg i (by omega)]; exact q)
theorem op_pow : OpR X (binaryOp .Pow) (rI CPow fun i j => .int (i ^ j.toNat)) := opI fun _ _ _ _ _ _ _ hc q => pow_int_small hc.1 hc.2.1 hc.2.2 q
theorem unI {f : Value → Sem Value} {g : Int → Int}
    (rule : ∀ (i : Int) (t : Tok) (s : Shared) (Q : Value → Shared → Prop) (E : Value → Shared → Prop), Q (.int (g i) s.toks) { s with toks := s.toks + 1 } → wpAny (model X.prog X.w) X.A (f (.int i t)) Q E s) :
    UnR X f (rU fun i => .int (g i)) := by
  intro pins s σ H x v Q I rx h
  obtain ⟨i, rfl, q⟩ := h
  obtain ⟨t, rfl⟩ := rx
  exact rule i t s _ _ ⟨.int (g i), H, I.tok _, ⟨_, rfl⟩, q⟩
theorem un_neg : UnR X (unaryOp .USub) (rU fun i => .int (-i)) := unI fun _ _ _ _ _ q => neg_int q
/-! ### bools among ints: n += (a < b) -/
end

/-! ### comparisons -/
/-- the scalars that == tells apart as data does -/
def scal : V → V → Bool
  | .non, .non => true | .non, .int _ => true | .int _, .non => true | .non, .bl _ => true | .bl _, .non => true | .non, .str _ => true | .str _, .non => true
  | .int _, .int _ => true | .bl _, .bl _ => true | .str _, .str _ => true | .byt _, .byt _ => true
  | .int _, .str _ => true | .str _, .int _ => true | .bl _, .str _ => true | .str _, .bl _ => true
  | _, _ => false
def rEq : R2 := fun x y H Q => scal x y = true ∧ Q (.bl (decide (x = y))) H
def rNe : R2 := fun x y H Q => scal x y = true ∧ Q (.bl (!decide (x = y))) H

theorem dec_int {i j : Int} : decide (V.int i = V.int j) = (i == j) := by
  rw [Bool.eq_iff_iff]
  simp
theorem dec_bl {i j : Bool} : decide (V.bl i = V.bl j) = (i == j) := by
  rw [Bool.eq_iff_iff]
  simp
theorem dec_str {i j : Str} : decide (V.str i = V.str j) = (i == j) := by
  rw [Bool.eq_iff_iff]
  simp
theorem dec_byt {i j : Array UInt8} : decide (V.byt i = V.byt j) = (i.toList == j.toList) := by
  rw [Bool.eq_iff_iff]
  cases i
  cases j
  simp

section
variable {X : Cx} {a b c : Expr} {ta tb tc : TE} {pos : Pos}
theorem fin_bl {pins : List (Addr × Obj)} {σ : St} {H : Hp} {s : Shared} {Q : VK} {k k' : Bool} (I : Inv X pins σ H s) (q : Q (.bl k) H) (e : k = k') : EP X pins σ Q (.bool k') s := by
  subst e
  exact ⟨.bl k, H, I, rfl, q⟩
theorem op_eq : OpR X (compareOp .Eq) rEq := by
  intro pins s σ H x y v u Q I rx ry h
  obtain ⟨hs, q⟩ := h
  cases x with
  | non =>
    cases rx
    cases y with
    | non => cases ry; exact PySem.EqNone.eq_none_none (fin_bl I q (by simp))
    | bl j => cases ry; exact PySem.EqNone.eq_none_bool (fin_bl I q (by simp))
    | int j => obtain ⟨t', rfl⟩ := ry; exact PySem.EqNone.eq_none_int (fin_bl I q (by simp))
    | str j => obtain ⟨t', rfl⟩ := ry; exact PySem.EqNone.eq_none_str (fin_bl I q (by simp))
    | _ => exact absurd (show false = true from hs) Bool.false_ne_true
  | bl i =>
    cases rx
    cases y with
    | non => cases ry; exact PySem.EqNone.eq_bool_none (fin_bl I q (by simp))
    | bl j => cases ry; exact eq_bool (fin_bl I q dec_bl)
    | str j => obtain ⟨t', rfl⟩ := ry; exact PySem.EqMixed.eq_bool_str (fin_bl I q (by simp))
    | _ => exact absurd (show false = true from hs) Bool.false_ne_true
  | int i =>
    obtain ⟨t, rfl⟩ := rx
    cases y with
    | non => cases ry; exact PySem.EqNone.eq_int_none (fin_bl I q (by simp))
    | int j => obtain ⟨t', rfl⟩ := ry; exact eq_int (fin_bl I q dec_int)
    | str j => obtain ⟨t', rfl⟩ := ry; exact PySem.EqMixed.eq_int_str (fin_bl I q (by simp))
    | _ => exact absurd (show false = true from hs) Bool.false_ne_true
  | str i =>
    obtain ⟨t, rfl⟩ := rx
    cases y with
    | non => cases ry; exact PySem.EqNone.eq_str_none (fin_bl I q (by simp))
    | bl j => cases ry; exact PySem.EqMixed.eq_str_bool (fin_bl I q (by simp))
    | int j => obtain ⟨t', rfl⟩ := ry; exact PySem.EqMixed.eq_str_int (fin_bl I q (by simp))
    | str j => obtain ⟨t', rfl⟩ := ry; exact eq_str (fin_bl I q dec_str)
    | _ => exact absurd (show false = true from hs) Bool.false_ne_true
  | byt i =>
    obtain ⟨t, rfl⟩ := rx
    cases y with
    | byt j => obtain ⟨t', rfl⟩ := ry; exact PySem.W.eq_bytes (fin_bl I q dec_byt)
    | _ => exact absurd (show false = true from hs) Bool.false_ne_true
  | _ => cases y <;> exact absurd (show false = true from hs) Bool.false_ne_true
theorem op_ne : OpR X (compareOp .NotEq) rNe := by
  intro pins s σ H x y v u Q I rx ry h
  obtain ⟨hs, q⟩ := h
  cases x with
  | non =>
    cases rx
    cases y with
    | non => cases ry; exact PySem.EqNone.ne_none_none (fin_bl I q (by simp))
    | bl j => cases ry; exact PySem.EqNone.ne_none_bool (fin_bl I q (by simp))
    | int j => obtain ⟨t', rfl⟩ := ry; exact PySem.EqNone.ne_none_int (fin_bl I q (by simp))
    | str j => obtain ⟨t', rfl⟩ := ry; exact PySem.EqNone.ne_none_str (fin_bl I q (by simp))
    | _ => exact absurd (show false = true from hs) Bool.false_ne_true
  | bl i =>
    cases rx
    cases y with
    | non => cases ry; exact PySem.EqNone.ne_bool_none (fin_bl I q (by simp))
    | bl j => cases ry; exact ne_bool (fin_bl I q (congrArg not dec_bl))
    | str j => obtain ⟨t', rfl⟩ := ry; exact PySem.EqMixed.ne_bool_str (fin_bl I q (by simp))
    | _ => exact absurd (show false = true from hs) Bool.false_ne_true
  | int i =>
    obtain ⟨t, rfl⟩ := rx
    cases y with
    | non => cases ry; exact PySem.EqNone.ne_int_none (fin_bl I q (by simp))
    | int j => obtain ⟨t', rfl⟩ := ry; exact ne_int (fin_bl I q (congrArg not dec_int))
    | str j => obtain ⟨t', rfl⟩ := ry; exact PySem.EqMixed.ne_int_str (fin_bl I q (by simp))
    | _ => exact absurd (show false = true from hs) Bool.false_ne_true
  | str i =>
    obtain ⟨t, rfl⟩ := rx
    cases y with
    | non => cases ry; exact PySem.EqNone.ne_str_none (fin_bl I q (by simp))
    | bl j => cases ry; exact PySem.EqMixed.ne_str_bool (fin_bl I q (by simp))
    | int j => obtain ⟨t', rfl⟩ := ry; exact PySem.EqMixed.ne_str_int (fin_bl I q (by simp))
    | str j => obtain ⟨t', rfl⟩ := ry; exact ne_str (fin_bl I q (congrArg not dec_str))
    | _ => exact absurd (show false = true from hs) Bool.false_ne_true
  | byt i =>
    obtain ⟨t, rfl⟩ := rx
    cases y with
    | byt j => obtain ⟨t', rfl⟩ := ry; exact PySem.W.ne_bytes (fin_bl I q (congrArg not dec_byt))
    | _ => exact absurd (show false = true from hs) Bool.false_ne_true
  | _ => cases y <;> exact absurd (show false = true from hs) Bool.false_ne_true

theorem op_lt : OpR X (compareOp .Lt) (rI0 fun i j => .bl (decide (i < j))) := opB0 fun _ _ _ _ _ _ _ q => lt_int q
theorem op_le : OpR X (compareOp .LtE) (rI0 fun i j => .bl (decide (i ≤ j))) := opB0 fun _ _ _ _ _ _ _ q => le_int q
theorem op_gt : OpR X (compareOp .Gt) (rI0 fun i j => .bl (decide (j < i))) := opB0 fun _ _ _ _ _ _ _ q => gt_int q
theorem op_ge : OpR X (compareOp .GtE) (rI0 fun i j => .bl (decide (j ≤ i))) := opB0 fun _ _ _ _ _ _ _ q => ge_int q
theorem nomark (b : Expr) {op : CmpOp} (h : op ≠ .In := by decide) (h2 : op ≠ .NotIn := by decide) : behindInMarks op b = false := by
  have e1 : (op == CmpOp.In) = false := by cases op <;> first | rfl | exact absurd rfl h
  have e2 : (op == CmpOp.NotIn) = false := by cases op <;> first | rfl | exact absurd rfl h2
  cases b <;> simp [behindInMarks, e1, e2]
/-- a comparison as a value; hm: nomark b, or (for in, not in) by with_unfolding_all rfl -/
theorem pe_cmpR {op : CmpOp} {r : R2} (ho : OpR X (compareOp op) r) (ha : PE X a ta) (hb : PE X b tb) (hm : behindInMarks op b = false) : PE X (.Compare a [op] [b] pos) (tOp r ta tb) := by
  intro pins s σ H Q I h
  exact wpAny_Compare1 (binT ha hb I h fun v u s2 x y H2 I2 rx ry q => ho pins s2 σ H2 x y v u Q I2 rx ry q) hm
/-- a reading of a value as a test -/
def tTest (t : TE) : TT := fun σ H Q => t σ H fun x H' => ∃ k, x = .bl k ∧ Q k H'
theorem pt_cmpR {op : CmpOp} {r : R2} (ho : OpR X (compareOp op) r) (ha : PE X a ta) (hb : PE X b tb) (hm : behindInMarks op b = false) : PT X (.Compare a [op] [b] pos) (tTest (tOp r ta tb)) := by
  intro pins s σ H Q I h
  refine wpAny_isTrue_Compare1 (thn (ha pins s σ H _ I h) fun v s1 ⟨x, H1, I1, r1, q1⟩ => thn (hb pins s1 σ H1 _ I1 q1) fun u s2 ⟨y, H2, I2, r2, q2⟩ =>
    thn (ho pins s2 σ H2 x y v u _ I2 r1 r2 q2) fun c s3 ⟨z, H3, I3, r3, k, e, q3⟩ => ?_) hm
  subst e
  cases r3
  exact wpAny_truthy_bool ⟨H3, I3, q3⟩
/-! ### truth -/
theorem isEmpty_of {xs : List V} {its : List Value} (r : Vals xs its) : (!its.toArray.isEmpty) = !xs.isEmpty := by
  cases r <;> simp
theorem line63 : (sizeLine : Nat) < 2 ^ 63 := by rw [sizeLine_eq]; decide
/-! ### strs and bytes -/
/-! ### scalar builtins, by CallR -/
theorem vals1 {x : V} {us : List Value} (r : Vals [x] us) : ∃ u, us = [u] ∧ RelV x u := by
  cases r with
  | cons r1 r2 => cases r2; exact ⟨_, rfl, r1⟩
theorem vals2 {x y : V} {us : List Value} (r : Vals [x, y] us) : ∃ u w', us = [u, w'] ∧ RelV x u ∧ RelV y w' := by
  cases r with
  | cons r1 r2 =>
    cases r2 with
    | cons r3 r4 => cases r4; exact ⟨_, _, rfl, r1, r3⟩
theorem call_max2 (hc : X.calm = true) : CallR X (.builtin "max") (fun xs H Q => ∃ i j, xs = [.int i, .int j] ∧ Q (.int (if j > i then j else i)) H) := by
  intro pins s σ H xs us Q I r h
  obtain ⟨i, j, rfl, q⟩ := h
  obtain ⟨u, w', rfl, ⟨t, rfl⟩, ⟨t', rfl⟩⟩ := vals2 r
  refine max_two_ints (I.ok.hd hc) fun h' tk k => ⟨_, H, I.kept k, ?_, q⟩
  by_cases hj : j > i
  · rw [if_pos hj, if_pos hj]; exact ⟨_, rfl⟩
  · rw [if_neg hj, if_neg hj]; exact ⟨_, rfl⟩
theorem call_min2 (hc : X.calm = true) : CallR X (.builtin "min") (fun xs H Q => ∃ i j, xs = [.int i, .int j] ∧ Q (.int (if j < i then j else i)) H) := by
  intro pins s σ H xs us Q I r h
  obtain ⟨i, j, rfl, q⟩ := h
  obtain ⟨u, w', rfl, ⟨t, rfl⟩, ⟨t', rfl⟩⟩ := vals2 r
  refine min_two_ints (I.ok.hd hc) fun h' tk k => ⟨_, H, I.kept k, ?_, q⟩
  by_cases hj : j < i
  · rw [if_pos hj, if_pos hj]; exact ⟨_, rfl⟩
  · rw [if_neg hj, if_neg hj]; exact ⟨_, rfl⟩
theorem call_int1 : CallR X (.type "int") (fun xs H Q => (∃ i, xs = [.int i] ∧ Q (.int i) H) ∨ ∃ k, xs = [.bl k] ∧ Q (.int (if k then 1 else 0)) H) := by
  intro pins s σ H xs us Q I r h
  rcases h with ⟨i, rfl, q⟩ | ⟨k, rfl, q⟩
  · obtain ⟨u, rfl, t, rfl⟩ := vals1 r
    exact call_int_int ⟨.int i, H, I, ⟨_, rfl⟩, q⟩
  · obtain ⟨u, rfl, r1⟩ := vals1 r
    cases r1
    exact call_int_bool ⟨.int (if k then 1 else 0), H, I.tok _, ⟨_, rfl⟩, q⟩
end
end L2

namespace L2
open PySem PySem.Spec PyProof.Rows

/-! ### an instance, its attributes a map -/
structure ObjM (h : Heap) (x dx C : Addr) (mA : Str → Option Value) : Prop where
  obj : h.get? x = some (PySem.W.instObj C dx)
  ns : h.Ns1 dx mA
  ne : dx ≠ x

theorem lookIn_ns {h : Heap} {dx : Addr} {mA : Str → Option Value} (n : h.Ns1 dx mA) : ∃ od, h.get? dx = some od ∧ ∀ name, PySem.W.lookIn name od = some (mA name) := by
  obtain ⟨o, es, ep, ho, hd, hk, _, hm⟩ := n
  refine ⟨o, ho, fun name => ?_⟩
  have e := hm name
  unfold nsFind findBy at e
  rw [← Array.find?_toList] at e
  unfold PySem.W.lookIn
  rw [hd]
  dsimp only
  split
  · rename_i y q
    rw [q] at e
    exact congrArg some e
  · rename_i q
    rw [q] at e
    have a : es.toList.any (·.refKey) = false := by
      rw [List.any_eq_false]
      intro y hy
      obtain ⟨z, t, hkey⟩ := hk y (Array.mem_toList_iff.mp hy)
      simp [DictEntry.refKey, hkey]
    have a' : ¬ es.toList.any (·.refKey) = true := by rw [a]; exact Bool.false_ne_true
    rw [if_neg a']
    exact congrArg some e

theorem ObjM.look {h : Heap} {x dx C : Addr} {mA : Str → Option Value} (I : ObjM h x dx C mA) : ∃ od, PySem.W.InstAt h x (PySem.W.instObj C dx) C (some od) ∧ ∀ name, PySem.W.lookIn name od = some (mA name) :=
  let ⟨od, ho, hl⟩ := lookIn_ns I.ns
  ⟨od, ⟨I.obj, rfl, rfl, ho⟩, hl⟩

section
variable {prog : Program} {w : World} {A : Around} {E : Value → Shared → Prop} {s : Shared} {K : PySem.W.Frag} {x dx C f : Addr} {mA : Str → Option Value} {name : Str} {v : Value}

end

/-! ### the attributes as a list of pairs -/
theorem RelO.some_of {v : V} {o : Option Value} (r : RelO (some v) o) : ∃ u, o = some u ∧ RelV v u := by
  cases o with
  | none => exact (show False from r).elim
  | some u => exact ⟨u, rfl, r⟩
section
variable {P : Program} {w : World} {H H' : Hp} {h h' : Heap} {a C dx : Addr} {fs fs' : List (Str × V)}
theorem ins_get (hok : HOk P w H h) (e : H a = some (.ins C dx fs)) : ∃ mA, ObjM h a dx C mA ∧ (∀ f, RelO (fs.lookup f) (mA f)) ∧ PySem.Within mA (fs.map (·.1)) ∧ fs.length ≤ 1000 ∧ H dx = some (.own a) := by
  obtain ⟨d, z, ne, ob, mA, n, r, q⟩ := (show ObjOk P w H h a (.ins C dx fs) from hok a _ e)
  exact ⟨mA, ⟨ob, n, ne⟩, r, q, z, d⟩
end

/-! ### what of the text a class must have -/
structure Cls (K : PySem.W.Frag) (C : Addr) : Prop where
  pg : PySem.W.plainGet K C Str.empty = true
  hd : PySem.W.hasDictIn K C = true
  po : PySem.W.plainOver K C = true
  sa : PySem.W.findIn K (.ref C) "__setattr__" = some (some (.builtin "object.__setattr__"))
theorem Cls.get {K : PySem.W.Frag} {C : Addr} (c : Cls K C) (f : Str) : PySem.W.plainGet K C f = true := c.pg
section
variable {X : Cx} {pins : List (Addr × Obj)} {σ : St} {H : Hp} {s : Shared} {a C dx : Addr} {fs : List (Str × V)} {f : Str} {v : V} {A : Around} {E : Value → Shared → Prop}

end

/-! ### readings and rules -/
section
variable {X : Cx} {o e value : Expr} {f : Str} {pos pos' tpos : Pos} {ta tv : TE}
end

/-! ### isinstance -/
section
variable {X : Cx} {pins : List (Addr × Obj)} {σ : St} {H : Hp} {s : Shared} {A : Around} {E : Value → Shared → Prop} {Q : Value → Shared → Prop} {c : Value} {b : Bool}
/-- the type of a value, as the fragment's deciders take it; for an instance its class -/
inductive TyOf (K : PySem.W.Frag) (H : Hp) : V → Value → Prop where
  | non : TyOf K H .non (.type "NoneType")
  | bl (x : Bool) : TyOf K H (.bl x) (.type "bool")
  | int (i : Int) : TyOf K H (.int i) (.type "int")
  | str (x : Str) : TyOf K H (.str x) (.type "str")
  | flt (x : UInt64) : TyOf K H (.flt x) (.type "float")
  | lst {a : Addr} {xs : List V} (e : H a = some (.lst xs)) : TyOf K H (.ref a) (.type "list")
  | frz {a : Addr} {o : Obj} {xs : List V} (e : H a = some (.frz o (.lst xs))) : TyOf K H (.ref a) (.type "list")
  | tup {a : Addr} {xs : List V} (e : H a = some (.tup xs)) : TyOf K H (.ref a) (.type "tuple")
  | dK {a : Addr} {kvs : List (Key × V)} (e : H a = some (.dK kvs)) : TyOf K H (.ref a) (.type "dict")
  | dT {a : Addr} {kvs : List (List Key × V)} (e : H a = some (.dT kvs)) : TyOf K H (.ref a) (.type "dict")
  | ins {a C dx : Addr} {fs : List (Str × V)} (e : H a = some (.ins C dx fs)) (cl : Cls K C) (ha : PySem.W.findIn K (.ref C) "__class__" = some (some (.builtin "object.__class__")))
      (hn : PySem.W.specialIn K (.builtin "object.__class__") "__get__" = some (some (.builtin "getset_descriptor.__get__"))) (htk : PySem.W.takesIn K (.builtin "object.__class__") = some true)
      (hm : PySem.W.mroIn K C (.type "object") = some true) : TyOf K H (.ref a) (.ref C)
/-- isinstance(x, c) for one class c, a built-in or an own one: kitOne's answer -/
theorem isinst_ok {x : V} {u t : Value} (I : Inv X pins σ H s) (rx : RelV x u) (ty : TyOf X.K H x t) (e : PySem.W.kitOne X.K t c = some b) (h : ∀ tk, Q (.bool b) { s with toks := tk }) :
    wpAny (model X.prog X.w) A (call (.builtin "isinstance") [u, c]) Q E s := by
  cases ty with
  | non => cases (show u = Value.none from rx); exact PySem.W.kia_one PySem.W.kitx_none I.kIn True.intro e (fun z => nomatch z) h
  | bl y => cases (show u = Value.bool y from rx); exact PySem.W.kia_one PySem.W.kitx_bool I.kIn True.intro e (fun z => nomatch z) h
  | int i => obtain ⟨t, q⟩ := (show ∃ t, u = Value.int i t from rx); cases q; exact PySem.W.kia_one PySem.W.kitx_int I.kIn True.intro e (fun z => nomatch z) h
  | str y => obtain ⟨t, q⟩ := (show ∃ t, u = Value.str y t from rx); cases q; exact PySem.W.kia_one PySem.W.kitx_str I.kIn True.intro e (fun z => nomatch z) h
  | flt y => obtain ⟨t, q⟩ := (show ∃ t, u = Value.float y t from rx); cases q; exact PySem.W.kia_one PySem.W.kitx_float I.kIn True.intro e (fun z => nomatch z) h
  | @lst a xs ea =>
    cases (show u = Value.ref a from rx)
    obtain ⟨_, _, n, _, h1⟩ := (show ObjOk X.prog X.w H s.heap a (.lst xs) from I.hok a _ ea)
    exact PySem.W.kia_one PySem.W.kitx_list I.kIn ⟨_, h1, rfl⟩ e (fun z => nomatch z) h
  | @frz a ob xs ea =>
    cases (show u = Value.ref a from rx)
    obtain ⟨_, _, _, n, _, h1⟩ := (show ObjOk X.prog X.w H s.heap a (.frz ob (.lst xs)) from I.hok a _ ea)
    exact PySem.W.kia_one PySem.W.kitx_list I.kIn ⟨_, h1, rfl⟩ e (fun z => nomatch z) h
  | @tup a xs ea =>
    cases (show u = Value.ref a from rx)
    obtain ⟨_, _, _, p⟩ := (show ObjOk X.prog X.w H s.heap a (.tup xs) from I.hok a _ ea)
    obtain ⟨o, h1, h2, _⟩ := p
    exact PySem.W.kia_one PySem.W.kitx_tuple I.kIn ⟨o, h1, h2⟩ e (fun z => nomatch z) h
  | @dK a kvs ea =>
    cases (show u = Value.ref a from rx)
    obtain ⟨_, _, vs, _, p⟩ := (show ObjOk X.prog X.w H s.heap a (.dK kvs) from I.hok a _ ea)
    obtain ⟨o, es, ep, h1, h2, _⟩ := p
    exact PySem.W.kia_one PySem.W.kitx_dict I.kIn ⟨o, h1, h2.1⟩ e (fun z => nomatch z) h
  | @dT a kvs ea =>
    cases (show u = Value.ref a from rx)
    obtain ⟨_, _, xs, _, o, es, ep, h1, h2, _⟩ := (show ObjOk X.prog X.w H s.heap a (.dT kvs) from I.hok a _ ea)
    exact PySem.W.kia_one PySem.W.kitx_dict I.kIn ⟨o, h1, h2.1⟩ e (fun z => nomatch z) h
  | @ins a C dx fs ea cl ha hn htk hm =>
    cases (show u = Value.ref a from rx)
    obtain ⟨mA, O, _⟩ := ins_get I.hok ea
    obtain ⟨od, J, _⟩ := O.look
    exact PySem.W.kia_one (PySem.W.kitx_own (cl.get _) cl.hd ha hn htk hm) I.kIn J e (fun z => nomatch z) h
end
end L2

namespace L2
open PySem PySem.Spec PyProof.Rows

/-! ### room -/
structure Room (k : Nat) (A : Around) : Prop where
  hd : A.handled = none
  dp : A.depth + 3 * k + 5 < recursionLimit
  un : A.units + 16 * k + 200 < cLine
theorem Room.mono {j k : Nat} {A : Around} (r : Room k A) (h : j ≤ k) : Room j A := ⟨r.hd, by have := r.dp; omega, by have := r.un; omega⟩
theorem Room.deeper {k : Nat} {A : Around} (r : Room (k + 1) A) (env : Env) : Room k (A.deeper env) :=
  ⟨r.hd, by have := r.dp; show A.depth + 1 + 3 * k + 5 < _; omega, by have := r.un; show A.units + 3 + 16 * k + 200 < _; omega⟩
theorem Room.depth {k : Nat} {A : Around} (r : Room k A) : A.depth < recursionLimit := by have := r.dp; omega
/-! ### argument lists and displays -/
def tNil : TA := fun _ H Q => Q [] H
def tCons (ta : TE) (tr : TA) : TA := fun σ H Q => ta σ H fun x H1 => tr σ H1 fun xs H2 => Q (x :: xs) H2
section
variable {X : Cx} {e : Expr} {es : List Expr} {te : TE} {t : TA} {pos : Pos}
theorem pa_nil : PA X [] tNil := fun _ _ _ _ H Q I h => Calls.spliced_nil ⟨[], H, I, .nil, h⟩
theorem pa_cons (ha : PE X e te) (hr : PA X es t) (hs : starEach (e :: es) X.env = (false, eval e X.env) :: starEach es X.env := by rfl) : PA X (e :: es) (tCons te t) := by
  intro pos pins s σ H Q I h
  rw [hs]
  show wpAny _ _ (spliced ((false, eval e X.env) :: backTo pos (starEach es X.env))) _ _ s
  refine Calls.spliced_cons (thn (ha pins s σ H _ I h) fun u s1 ⟨x, H1, I1, r1, q1⟩ => ?_)
  exact thn (hr pos pins s1 σ H1 _ I1 q1) fun us s2 ⟨xs, H2, I2, r2, q2⟩ => ⟨x :: xs, H2, I2, .cons r1 r2, q2⟩

end

/-! ### what a def promises -/
/-- a def's promise: the bound arguments in the parameters' order, the heap, the wanted end, the wanted exception -/
abbrev Sp := List V → Hp → VK → XK → Prop
/-- how an exception lies behind a call (file 08 gives it): the callers' frames, abstract heap and state ahead of the call, the wish, the exception, the state -/
abbrev CXT := List Env → Hp → Shared → XK → Value → Shared → Prop

/-- the state at a call -/
structure Env0 (P : Program) (w : World) (K : PySem.W.Frag) (mg : Str → Option Value) (base : Heap) (A : Around) (outer : List Env) (s : Shared) (H : Hp) : Prop where
  frames : A.frames = some outer
  mod : Mod K mg base
  bs : ∀ b o, base.get? b = some o → s.heap.get? b = some o ∧ H b = none
  bsz : base.objs.size ≤ s.heap.objs.size
  funs : s.heap.FunFrames base outer
  frf : ∀ b ∈ frs outer, H b = none
  hok : HOk P w H s.heap
  bare : AllBare s.gens
/-- a call's end -/
def CE (outer : List Env) (P : Program) (w : World) (H : Hp) (s : Shared) (Q : VK) (u : Value) (s' : Shared) : Prop :=
  ∃ v H', s'.os = s.os ∧ AllBare s'.gens ∧ Un (frs outer) [] H H' s.heap s'.heap ∧ HOk P w H' s'.heap ∧ RelV v u ∧ Q v H'
def CR (CX : CXT) (outer : List Env) (P : Program) (w : World) (H : Hp) (s : Shared) (Q : VK) (E : XK) (r : Result) (s' : Shared) : Prop :=
  match r with
  | .ok (.ret u) => CE outer P w H s Q u s'
  | .ok _ => False
  | .error e => CX outer H s E e s'
structure FnOk (P : Program) (w : World) (K : PySem.W.Frag) (mg : Str → Option Value) (base : Heap) (CX : CXT) (k : Nat) (f : Addr) (fd : FuncData) (ps : List Str) (sp : Sp) : Prop where
  len : ∀ vs H Q E, sp vs H Q E → vs.length = ps.length
  run : ∀ (A : Around) (outer : List Env) (s : Shared) (H : Hp) (args : Args) (us : List Value) (vs : List V) (Q : VK) (E : XK), Room k A → Env0 P w K mg base A outer s H → BindsTo s fd args (ps.zip us) → Vals vs us → sp vs H Q E →
    codeAny (model P w) A (.call (.ref f) args) (CR CX outer P w H s Q E) s
section
variable {X : Cx} {pins : List (Addr × Obj)} {σ : St} {H : Hp} {s s' : Shared}
/-- from a body: what a callee wants -/
theorem Inv.env0 (I : Inv X pins σ H s) : Env0 X.prog X.w X.K X.mg X.base X.A X.stack s H :=
  ⟨I.ok.frames, I.ok.mod, I.bs, Nat.le_trans I.ok.bsz I.sz, I.stack, I.stkFree, I.hok, I.bare⟩
/-- behind a call -/
theorem Inv.after {Q : VK} {u : Value} (I : Inv X pins σ H s) (h : CE X.stack X.prog X.w H s Q u s') : EP X pins σ Q u s' := by
  obtain ⟨v, H', os, bare, un, hok, r, q⟩ := h
  obtain ⟨hh, g, d, t, os'⟩ := s'
  obtain rfl : os' = s.os := os
  exact ⟨v, H', I.call (h' := hh) (g' := g) (d' := d) (t' := t) (ch := []) un hok bare (fun b z => absurd z (by simp)), r, q⟩
end

/-! ### calls -/
/-- f(..): the written arguments, then the defaults dvs; E: what is wanted of an exception -/
def tCall (sp : Sp) (dvs : List V) (E : XK) (t : TA) : TE := fun σ H Q => t σ H fun vs H1 => sp (vs ++ dvs) H1 Q E
/-- how the parameters are bound: us the positional arguments, kw the keywords' values by name, ds the defaults that fill up -/
def Binds (K : PySem.W.Frag) (fd : FuncData) (ps : List Str) (ds : List Value) : Prop :=
  ∀ (s : Shared) (us : List Value), K.In s.heap → (us ++ ds).length = ps.length → BindsTo s fd ⟨us, []⟩ (ps.zip (us ++ ds))
/-- every parameter is given -/
theorem Binds.all {K : PySem.W.Frag} {fd : FuncData} {ps : List Str} (h : ∀ us : List Value, us.length = ps.length → bindArgs fd ⟨us, []⟩ = pure (ps.zip us)) : Binds K fd ps [] := fun s us _ hl => by
  rw [List.append_nil] at hl ⊢
  exact .of_eq (h us hl)

/-- an exception of a callee reaches what this body wants of exceptions -/
def Passes (CX : CXT) (X : Cx) (E : XK) : Prop := ∀ (pins : List (Addr × Obj)) (σ : St) (H : Hp) (s : Shared) (e : Value) (s' : Shared), Inv X pins σ H s → CX X.stack H s E e s' → X.xe e s'

section
variable {X : Cx} {CX : CXT} {k : Nat} {f C : Addr} {fd : FuncData} {ps : List Str} {sp : Sp} {dvs : List V} {ds : List Value} {E : XK} {x m : Str} {p pos apos : Pos} {e o : Expr} {es : List Expr} {ta : TE} {t : TA}

/-- the callee runs -/
theorem run_fn {pins : List (Addr × Obj)} {σ : St} {H : Hp} {s : Shared} {Q : VK} {us : List Value} {vs : List V} (F : FnOk X.prog X.w X.K X.mg X.base CX k f fd ps sp) (hr : Room k X.A) (hb : Binds X.K fd ps ds) (hd : Vals dvs ds) (hx : Passes CX X E)
    (I : Inv X pins σ H s) (r : Vals vs us) (h : sp (vs ++ dvs) H Q E) : wpAny (model X.prog X.w) X.A (call (.ref f) us) (EP X pins σ Q) X.xe s := by
  have r2 : Vals (vs ++ dvs) (us ++ ds) := r.append hd
  have hl : (us ++ ds).length = ps.length := by rw [← r2.length]; exact F.len _ _ _ _ h
  refine wpAny_call (codeAny_mono (F.run X.A X.stack s H ⟨us, []⟩ (us ++ ds) (vs ++ dvs) Q E hr I.env0 (hb s us I.kIn hl) r2 h) fun r s' hq => ?_)
  cases r with
  | error e => exact hx pins σ H s e s' I hq
  | ok fl =>
    cases fl with
    | ret u => exact I.after hq
    | next => exact False.elim hq
    | brk => exact False.elim hq
    | cont => exact False.elim hq

theorem pe_call (F : FnOk X.prog X.w X.K X.mg X.base CX k f fd ps sp) (hr : Room k X.A) (hg : Gl X x) (hm : X.mg x = some (.ref f)) (hk : PySem.W.keepIn X.K (.ref f) = true) (hb : Binds X.K fd ps ds) (hd : Vals dvs ds) (hx : Passes CX X E)
    (ha : PA X (e :: es) t) (hdb : (x == ("__debug__" : Str)) = false := by decide) (he : starEach (e :: es) X.env = (false, eval e X.env) :: starEach es X.env := by rfl) (hpl : (backTo pos (starEach es X.env)).any (·.1) = false := by rfl) :
    PE X (.Call (.Name x p) (e :: es) [] pos) (tCall sp dvs E t) := by
  intro pins s σ H Q I h
  refine wpAny_Call_Name_kw (ld_glob I hg hm ?_ hdb)
  refine PySem.W.callWith_K (h₀ := X.base) I.ok.mod.kin hk (thn (ha pos pins s σ H _ I h) fun us s1 ⟨vs, H1, I1, r, q⟩ => ⟨I1.kIn, ?_⟩) he hpl
  exact run_fn F hr hb hd hx I1 r q
end

/-! ### keywords -/
section
variable {X : Cx} {CX : CXT} {k : Nat} {f C : Addr} {fd : FuncData} {ps ks : List Str} {sp : Sp} {E : XK} {x m : Str} {p pos apos kpos : Pos} {e o : Expr} {es : List Expr} {kws : List Keyword} {te ta : TE} {t tk : TA} {nm : Option Str}
variable {g : List Value → List Value → List Value} {gV : List V → List V → List V}
end

/-! ### a def's body keeps its promise -/
/-- names: the parameters first -/
structure FnScope (N P : List Str) (sc : Scope) : Prop where
  kind : sc.kind = .function
  co : sc.isCoroutine = false
  gen : sc.isGenerator = false
  nd : N.Nodup
  pre : N.take P.length = P
  par : ∀ x ∈ P, sc.names.lookup x = some .local ∨ sc.names.lookup x = some .cell
  nofree : ∀ y ∈ sc.names, y.2 ≠ .free

theorem bindL_out {kindOf : Str → Option NameKind} {x : Str} : ∀ {binds : List (Str × Value)} {m : Str → Option Value}, (∀ v, (x, v) ∉ binds) → bindL kindOf binds m x = m x
  | [], _, _ => rfl
  | (n, v) :: r, m, h => by
    unfold bindL
    rw [bindL_out fun w hw => h w (List.mem_cons_of_mem _ hw)]
    split
    · have : x ≠ n := by rintro rfl; exact h v List.mem_cons_self
      simp [this]
    · rfl
theorem bindC_out {kindOf : Str → Option NameKind} {x : Str} : ∀ {binds : List (Str × Value)} {m : Str → Option Value}, (∀ v, (x, v) ∉ binds) → bindC kindOf binds m x = m x
  | [], _, _ => rfl
  | (n, v) :: r, m, h => by
    unfold bindC
    rw [bindC_out fun w hw => h w (List.mem_cons_of_mem _ hw)]
    split
    · rfl
    · have : x ≠ n := by rintro rfl; exact h v List.mem_cons_self
      simp [this]
theorem bindL_get {kindOf : Str → Option NameKind} {x : Str} {v : Value} : ∀ {P : List Str} {vs : List Value} {i : Nat} {m : Str → Option Value}, P.Nodup → P[i]? = some x → vs[i]? = some v → kindOf x = some .local →
    bindL kindOf (P.zip vs) m x = some v
  | [], _, _, _, _, h, _, _ => by simp at h
  | _ :: _, [], _, _, _, _, h, _ => by simp at h
  | p :: P, w :: vs, 0, m, nd, h1, h2, hk => by
    simp at h1 h2; subst h1; subst h2
    show bindL kindOf ((p, w) :: P.zip vs) m p = _
    unfold bindL
    rw [bindL_out fun v hv => (List.nodup_cons.mp nd).1 (List.of_mem_zip hv).1, if_pos hk]
    simp
  | p :: P, w :: vs, i + 1, m, nd, h1, h2, hk => by
    show bindL kindOf ((p, w) :: P.zip vs) m x = _
    unfold bindL
    exact bindL_get (i := i) (List.nodup_cons.mp nd).2 (by simpa using h1) (by simpa using h2) hk
theorem bindC_get {kindOf : Str → Option NameKind} {x : Str} {v : Value} : ∀ {P : List Str} {vs : List Value} {i : Nat} {m : Str → Option Value}, P.Nodup → P[i]? = some x → vs[i]? = some v → kindOf x ≠ some .local →
    bindC kindOf (P.zip vs) m x = some v
  | [], _, _, _, _, h, _, _ => by simp at h
  | _ :: _, [], _, _, _, _, h, _ => by simp at h
  | p :: P, w :: vs, 0, m, nd, h1, h2, hk => by
    simp at h1 h2; subst h1; subst h2
    show bindC kindOf ((p, w) :: P.zip vs) m p = _
    unfold bindC
    rw [bindC_out fun v hv => (List.nodup_cons.mp nd).1 (List.of_mem_zip hv).1, if_neg hk]
    simp
  | p :: P, w :: vs, i + 1, m, nd, h1, h2, hk => by
    show bindC kindOf ((p, w) :: P.zip vs) m x = _
    unfold bindC
    exact bindC_get (i := i) (List.nodup_cons.mp nd).2 (by simpa using h1) (by simpa using h2) hk

/-- the names' values at the entry -/
def start (N : List Str) (vs : List V) : St := vs.map some ++ List.replicate (N.length - vs.length) none

/-- the context of a def's body, at its entry; an exception leaves the frame, then lies as CX says -/
def cxOf (CX : CXT) (P : Program) (w : World) (K : PySem.W.Frag) (mg : Str → Option Value) (base : Heap) (N : List Str) (qual : Str) (scope : Scope) (f : Addr) (cd : Value) (A : Around) (outer : List Env) (s : Shared) (H : Hp) (E : XK) : Cx where
  prog := P
  w := w
  K := K
  mg := mg
  base := base
  A := A.deeper (envOfC qual scope s.heap.objs.size f cd)
  N := N
  s₀ := s
  H₀ := H
  env := envOfC qual scope s.heap.objs.size f cd
  outer := outer
  stack := envOfC qual scope s.heap.objs.size f cd :: outer
  ex := []
  calm := true
  fn := fun _ => true
  pn := []
  xe := fun e s' => wpAny (model P w) (A.deeper (envOfC qual scope s.heap.objs.size f cd)) (leaving (envOfC qual scope s.heap.objs.size f cd) e) (fun _ s'' => CX outer H s E e s'') (fun e' s'' => CX outer H s E e' s'') s'

theorem cell_has {sc : Scope} {n : Nat} {x : Str} (h : sc.names.lookup x = some .cell) : ∃ c, (cellsFrom n sc.names []).lookup x = some c := by
  have q := PySem.W.cellsFrom_some sc.names n [] (.inl h)
  exact Option.isSome_iff_exists.mp q

theorem inv_start {CX : CXT} {P : Program} {w : World} {K : PySem.W.Frag} {mg : Str → Option Value} {base : Heap} {N ps : List Str} {qual : Str} {scope : Scope} {f : Addr} {cd : Value} {A : Around} {outer : List Env} {s s1 : Shared} {H : Hp} {E : XK} {us : List Value} {vs : List V}
    (S : FnScope N ps scope) (hd : A.handled = none) (e0 : Env0 P w K mg base A outer s H) (hl : vs.length = ps.length) (r : Vals vs us)
    (x : InCallC s s.heap.objs.size (bindL (envOfC qual scope s.heap.objs.size f cd).kindOf (ps.zip us) fun _ => none) (cellsFrom (s.heap.objs.size + 1) scope.names []) (bindC (envOfC qual scope s.heap.objs.size f cd).kindOf (ps.zip us) fun _ => none) s1) :
    Inv (cxOf CX P w K mg base N qual scope f cd A outer s H E) [] (start N vs) H s1 := by
  have hpl : ps.length ≤ N.length := by have := congrArg List.length S.pre; rw [List.length_take] at this; omega
  obtain ⟨h1, tk, rfl, hk⟩ := x.done
  have noA : ∀ b : Addr, b ∉ (cxOf CX P w K mg base N qual scope f cd A outer s H E).ex := fun b z => absurd (show b ∈ ([] : List Addr) from z) (by simp)
  refine ⟨⟨e0.mod, S.kind, rfl, rfl, Nat.le_refl _, fun y z c h1 h2 => ?_, fun y hy => ?_, fun y c _ h => ?_, fun _ => hd, Around.frames_deeper e0.frames, .inr ⟨rfl, rfl⟩, fun b z => absurd z (noA b), e0.bs, e0.bsz, fun b _ _ => noA b, fun b z => absurd z (noA b), e0.funs, e0.frf⟩,
    rfl, e0.bare, Un.kept hk, ⟨_, x.toInCall.ns, fun i y v h1 h2 h3 => ?_⟩, fun y c h => ⟨_, x.cell y c h⟩, e0.hok.fresh (Nat.le_refl _), fun y c h => ?_, fun p hp => absurd (show p ∈ ([] : List (Addr × Obj)) from hp) (by simp), e0.hok.kept hk, ?_⟩
  · exact name_of_addr x.apart (PySem.mem_of_lookup h1) (PySem.mem_of_lookup h2)
  · have hy : scope.names.lookup y = some .cell ∨ scope.names.lookup y = some .free := hy
    rcases hy with hy | hy
    · exact cell_has hy
    · exact absurd rfl (S.nofree _ (PySem.mem_of_lookup hy))
  · exact Nat.le_of_lt (x.above y c (PySem.mem_of_lookup h))
  · have hi : i < vs.length := by
      unfold start at h2
      by_cases hi : i < vs.length
      · exact hi
      · rw [List.getElem?_append_right (by simpa using hi)] at h2
        rw [List.getElem?_replicate] at h2
        split at h2 <;> cases h2
    have ha : vs[i]? = some v := by
      unfold start at h2
      rw [List.getElem?_append_left (by simpa using hi), List.getElem?_map] at h2
      cases e : vs[i]? with
      | none => rw [e] at h2; cases h2
      | some a => rw [e] at h2; cases h2; rfl
    obtain ⟨u, hu, rv⟩ := r.get ha
    have hp : ps[i]? = some y := by
      rw [← S.pre, List.getElem?_take_of_lt (by omega)]; exact h1
    have ndP : ps.Nodup := by rw [← S.pre]; exact S.nd.sublist (List.take_sublist _ _)
    refine ⟨u, rv, ?_⟩
    rcases S.par y (List.mem_of_getElem? hp) with k | k
    · exact .inl ⟨k, bindL_get ndP hp hu k⟩
    · obtain ⟨c, e⟩ := cell_has (n := s.heap.objs.size + 1) k
      refine .inr ⟨.inl k, c, e, ?_⟩
      have q := x.cell y c e
      rw [bindC_get ndP hp hu (by show scope.names.lookup y ≠ _; rw [k]; decide)] at q
      exact q
  · exact e0.hok.fresh (Nat.le_of_lt (x.above y c (PySem.mem_of_lookup h)))
  · unfold start
    show _ = N.length
    rw [List.length_append, List.length_map, List.length_replicate]
    omega

/-- THE RULE: a def (or a method) of the text, by its body. The body's reading t is chosen for each entry; it is run at the parameters' values -/
theorem fn_of {CX : CXT} {P : Program} {w : World} {K : PySem.W.Frag} {mg : Str → Option Value} {base : Heap} {k : Nat} {f : Addr} {name qual : Str} {params : Arguments} {body : List Stmt} {scope : Scope} {dV kV doc pm cdv ct oc : Value} {an od : Option Addr}
    {osl : Array (Option Value)} {N ps : List Str} {sp : Sp} (lk : K.lookup f = some ⟨oc, od, .func (PySem.W.fnOf name qual params body scope dV kV doc pm an cdv ct), osl⟩) (hcd : PySem.W.codeIn K cdv qual = true) (S : FnScope N ps scope)
    (len : ∀ vs H Q E, sp vs H Q E → vs.length = ps.length)
    (hbody : ∀ (A : Around) (outer : List Env) (s : Shared) (H : Hp) (vs : List V) (Q : VK) (E : XK), Room k (A.deeper (envOfC qual scope s.heap.objs.size f cdv)) → sp vs H Q E →
      ∃ t, PSs (cxOf CX P w K mg base N qual scope f cdv A outer s H E) body t ∧ t { nx := fun _ H' => Q .non H', rt := Q } (start N vs) H) :
    FnOk P w K mg base CX (k + 1) f (PySem.W.fnOf name qual params body scope dV kV doc pm an cdv ct) ps sp := by
  refine ⟨len, fun A outer s H args us vs Q E hr e0 hb r hsp => ?_⟩
  have hl := len _ _ _ _ hsp
  have KX : K.In s.heap := e0.mod.kin.keeps fun b o e => (e0.bs b o e).1
  have lim : s.heap.NoLimit := e0.mod.nolimit.keeps fun b o e => (e0.bs b o e).1
  have hkind : ∀ y ∈ ps.zip us, scope.names.lookup y.1 = some .local ∨ (scope.names.lookup y.1 = some .cell ∧ ((cellsFrom (s.heap.objs.size + 1) scope.names []).lookup y.1).isSome = true) := fun ⟨n, v⟩ hy => by
    rcases S.par n (List.of_mem_zip hy).1 with q | q
    · exact .inl q
    · exact .inr ⟨q, PySem.W.cellsFrom_some _ _ _ (.inl q)⟩
  refine codeAny_call_function hr.depth (KX _ _ lk) rfl S.co S.gen rfl (PySem.W.codeRec_of KX hcd) (hb _ _ _ _ ?_)
  refine wpAny_newFunctionEnv_cells S.kind hkind fun env he s1 x => ?_
  subst he
  refine ⟨lim.keeps x.toInCall.keep, codeAny_func ?_⟩
  obtain ⟨t, ht, hq⟩ := hbody A outer s H vs Q E (hr.deeper _) hsp
  have I : Inv (cxOf CX P w K mg base N qual scope f cdv A outer s H E) [] (start N vs) H s1 := inv_start S hr.hd e0 hl r x
  refine wpAny_mono (ht [] s1 (start N vs) H _ I hq) (fun fl s' hs => ?_) fun e s' hs => hs
  have fin : ∀ {σ' : St} {H' : Hp} {v : V} {u : Value}, Inv (cxOf CX P w K mg base N qual scope f cdv A outer s H E) [] σ' H' s' → RelV v u → Q v H' → CE outer P w H s Q u s' :=
    fun {σ' H' v u} J rv q => ⟨v, H', J.os, J.bare, J.base, J.hok, rv, q⟩
  cases fl with
  | ret u =>
    obtain ⟨v, σ', H', J, rv, q⟩ := hs
    exact fin J rv q
  | next =>
    obtain ⟨σ', H', J, q⟩ := hs
    exact fin (v := V.non) (u := Value.none) J rfl q
  | brk =>
    obtain ⟨_, _, _, q⟩ := hs
    exact False.elim q
  | cont =>
    obtain ⟨_, _, _, q⟩ := hs
    exact False.elim q
end L2

namespace L2
open PySem PySem.Spec PyProof.Rows
section
variable {X : Cx} {x : Str} {p pos : Pos} {e : Expr} {es : List Expr} {t : TA} {id T : String} {r : List V → Hp → VK → Prop}

def tCB (r : List V → Hp → VK → Prop) (t : TA) : TE := fun σ H Q => t σ H fun vs H1 => r vs H1 Q
/-- f(e, ..), f a built-in function -/
theorem pe_callB (hc : CallR X (.builtin id) r) (hg : Gl X x) (hm : X.mg x = none) (hv : bootBuiltins x = some (.builtin id)) (ha : PA X (e :: es) t) (hn : x ≠ "__name__" := by decide) (hdb : (x == ("__debug__" : Str)) = false := by decide)
    (he : starEach (e :: es) X.env = (false, eval e X.env) :: starEach es X.env := by rfl) (hpl : (backTo pos (starEach es X.env)).any (·.1) = false := by rfl) : PE X (.Call (.Name x p) (e :: es) [] pos) (tCB r t) := by
  intro pins s σ H Q I h
  refine wpAny_Call_Name_kw (ld_blt I hg hm hv ?_ hn hdb)
  exact PyProof.Rows.callWith_builtin1 (thn (ha pos pins s σ H _ I h) fun us s1 ⟨vs, H1, I1, r1, q1⟩ => hc pins s1 σ H1 vs us Q I1 r1 q1) he hpl
/-- T(e, ..), T a built-in type -/
theorem pe_callTy (hc : CallR X (.type T) r) (hg : Gl X x) (hm : X.mg x = none) (hv : bootBuiltins x = some (.type T)) (ha : PA X (e :: es) t) (hn : x ≠ "__name__" := by decide) (hdb : (x == ("__debug__" : Str)) = false := by decide)
    (he : starEach (e :: es) X.env = (false, eval e X.env) :: starEach es X.env := by rfl) (hpl : (backTo pos (starEach es X.env)).any (·.1) = false := by rfl) : PE X (.Call (.Name x p) (e :: es) [] pos) (tCB r t) := by
  intro pins s σ H Q I h
  refine wpAny_Call_Name_kw (ld_blt I hg hm hv ?_ hn hdb)
  exact PyProof.Rows.callWith_type1 (thn (ha pos pins s σ H _ I h) fun us s1 ⟨vs, H1, I1, r1, q1⟩ => hc pins s1 σ H1 vs us Q I1 r1 q1) he hpl
end
end L2

namespace HT
open PySem PyProof.Rows

section
open PySem.SeqAt
open PySem.AutoSeq1 (wpAny_loadPart')
open PySem.MeetsSeq PySem.MeetsSeq2 PySem.MeetsSeq3

end

section
variable {prog : Program} {w : World} {A : Around} {E : Value → Shared → Prop} {s : Shared}

/-- t + u, t not empty -/
theorem cat_tup {t b : Addr} {vs ws : List Value} {Q : Value → Shared → Prop} (ht : IsTup s.heap t vs.toArray) (hb : IsTup s.heap b ws.toArray) (hv : vs ≠ [])
    (h1 : ws = [] → Q (.ref t) s) (h2 : ws ≠ [] → Q (.ref s.heap.objs.size) { s with heap := s.heap.push { cls := .type "tuple", data := .seq (vs ++ ws).toArray } })
    (hsz : vs.length + ws.length ≤ sizeLine) : wpAny (model prog w) A (binaryOp .Add (.ref t) (.ref b)) Q E s := by
  obtain ⟨⟨cls, dd, data, sl⟩, ho, hc, n, hd⟩ := id ht
  obtain ⟨⟨cls2, dd2, data2, sl2⟩, ho2, hc2, n2, hd2⟩ := id hb
  simp only at hc hd hc2 hd2
  subst hc hd hc2 hd2
  have e : vs.toArray ++ ws.toArray = (vs ++ ws).toArray := by simp
  by_cases hw : ws = []
  · exact concat_meets ⟨_, ho, rfl⟩ ⟨_, ho2, rfl⟩ noFill_tuple_add seq_tuple_add PySem.F.slot_tuple_add PySem.F.entry_tuple_add (PySem.F.args_tuple_add_2 _ _)
      (tuple_addW1 t b vs.toArray ws.toArray n n2 dd dd2 sl sl2 (by simpa using hv) (by simp [hw])) ⟨ho, ho2, h1 hw⟩
  · refine concat_meets ⟨_, ho, rfl⟩ ⟨_, ho2, rfl⟩ noFill_tuple_add seq_tuple_add PySem.F.slot_tuple_add PySem.F.entry_tuple_add (PySem.F.args_tuple_add_2 _ _)
      (tuple_addW2 t b vs.toArray ws.toArray n n2 dd dd2 sl sl2 (by simpa using hv) (by simpa using hw) (by rw [List.size_toArray, List.size_toArray]; exact hsz)) ⟨ho, ho2, ?_⟩
    rw [e]
    exact h2 hw

/-! ### t[a:b], not the whole -/
/-- a slice's bound as a place among n (d where it is left out) -/
def sIx (n d : Nat) : Option Int → Nat
  | none => d
  | some v => if v < 0 then (v + (n : Int)).toNat else min v.toNat n
theorem sIx_none (n d : Nat) : sIx n d none = d := rfl
theorem sIx_nat (n d k : Nat) : sIx n d (some (k : Int)) = min k n := by
  show (if (k : Int) < 0 then ((k : Int) + (n : Int)).toNat else min (k : Int).toNat n) = min k n
  rw [if_neg (by omega), Int.toNat_natCast]
theorem sIx_le (n d : Nat) (hd : d ≤ n) (o : Option Int) : sIx n d o ≤ n := by
  cases o with
  | none => exact hd
  | some v =>
    show (if v < 0 then (v + (n : Int)).toNat else min v.toNat n) ≤ n
    by_cases hv : v < 0
    · rw [if_pos hv]; omega
    · rw [if_neg hv]; exact Nat.min_le_right _ _
theorem clip_eq (v : Int) (n d : Nat) : (if v < 0 then max (v + (n : Int)) 0 else min v (n : Int)) = ((sIx n d (some v) : Nat) : Int) := by
  show (if v < 0 then max (v + (n : Int)) 0 else min v (n : Int)) = (((if v < 0 then (v + (n : Int)).toNat else min v.toNat n) : Nat) : Int)
  by_cases hv : v < 0
  · simp only [if_pos hv]; omega
  · simp only [if_neg hv]; omega
theorem adjust_gen (lo hi : Option Int) (n : Nat) : Builtin.Slice.sliceAdjust lo hi 1 (n : Int) = (((sIx n 0 lo : Nat) : Int), ((sIx n n hi : Nat) : Int)) := by
  have h1 : ¬ ((1 : Int) < 0) := by omega
  unfold Builtin.Slice.sliceAdjust
  simp only [h1, if_false]
  refine Prod.ext ?_ ?_
  · cases lo with
    | none => rfl
    | some v => exact clip_eq v n 0
  · cases hi with
    | none => rfl
    | some v => exact clip_eq v n n
theorem places_gen (i j : Nat) : Builtin.Slice.slicePlaces (i : Int) (j : Int) 1 = j - i := by
  unfold Builtin.Slice.slicePlaces
  have h1 : (1 : Int) > 0 := by omega
  simp only [h1, if_true, Int.ediv_one]
  split <;> omega
theorem slicePart_ {v : Value} {o : Option Int} {Q : Option Int → Shared → Prop} (p : IsPart v o) (h : Q o s) : wpAny (model prog w) A (Builtin.Slice.slicePartIndex v) Q E s := by
  cases p with
  | none => exact slicePart_none h
  | int i t => exact slicePart_int h
theorem sliceApplied_gen {sl : Addr} {vl vu : Value} {lo hi : Option Int} {n : Nat} {Q : Int × Int × Nat → Shared → Prop} (hs : s.heap.IsSliceOf sl vl vu .none) (pl : IsPart vl lo) (pu : IsPart vu hi)
    (h : Q (((sIx n 0 lo : Nat) : Int), 1, sIx n n hi - sIx n 0 lo) s) : wpAny (model prog w) A (Builtin.Slice.sliceApplied (.ref sl) (pure (n : Int))) Q E s := by
  obtain ⟨os, hos, hcs, hds⟩ := id hs
  unfold Builtin.Slice.sliceApplied Builtin.Slice.sliceFields
  refine wpAny_bind (wpAny_bind (wpAny_field hos hds (x := vl) rfl (wpAny_bind (wpAny_field hos hds (x := vu) rfl (wpAny_bind (wpAny_field hos hds (x := .none) rfl (wpAny_pure ?_)))))))
  refine wpAny_bind (slicePart_none ?_)
  show wpAny _ _ (if ((1 : Int) == 0) = true then _ else _) _ _ s
  rw [if_neg (by decide)]
  refine wpAny_bind (slicePart_ pl (wpAny_bind (slicePart_ pu (wpAny_bind (wpAny_pure ?_)))))
  show wpAny _ _ (match Builtin.Slice.sliceAdjust lo hi 1 (n : Int) with | (lo, hi) => pure (lo, (1 : Int), Builtin.Slice.slicePlaces lo hi 1)) _ _ s
  rw [adjust_gen lo hi n]
  show wpAny _ _ (pure (((sIx n 0 lo : Nat) : Int), (1 : Int), Builtin.Slice.slicePlaces ((sIx n 0 lo : Nat) : Int) ((sIx n n hi : Nat) : Int) 1)) _ _ s
  rw [places_gen]
  exact wpAny_pure h
theorem pick_gen (xs : Array Value) (i k : Nat) : ((List.range k).filterMap fun (m : Nat) => xs[((i : Int) + (m : Int) * 1).toNat]?).toArray = ((xs.toList.drop i).take k).toArray := by
  have e : (fun (m : Nat) => xs[((i : Int) + (m : Int) * 1).toNat]?) = fun m => xs[i + m]? := by
    funext m
    have : ((i : Int) + (m : Int) * 1).toNat = i + m := by omega
    rw [this]
  rw [e]
  have := pick_run xs i k
  rw [List.filterMap_map] at this
  have e2 : ((fun x => xs[x]?) ∘ fun x => i + x) = fun m => xs[i + m]? := rfl
  rw [e2] at this
  rw [this]

theorem getItem_tuple_cut {t sl : Addr} {items : Array Value} {vl vu : Value} {lo hi : Option Int} {Q : Value → Shared → Prop} (ht : IsTup s.heap t items) (hs : s.heap.IsSliceOf sl vl vu .none) (pl : IsPart vl lo) (pu : IsPart vu hi)
    (hw : ¬ (sIx items.size 0 lo = 0 ∧ sIx items.size items.size hi = items.size))
    (h : Q (.ref s.heap.objs.size) { s with heap := s.heap.push { cls := .type "tuple", data := .seq ((items.toList.drop (sIx items.size 0 lo)).take (sIx items.size items.size hi - sIx items.size 0 lo)).toArray } })
    (hsz : items.size ≤ sizeLine) : wpAny (model prog w) A (getItem (.ref t) (.ref sl)) Q E s := by
  have htake : sizeOk (.seq ((items.toList.drop (sIx items.size 0 lo)).take (sIx items.size items.size hi - sIx items.size 0 lo)).toArray) := by
    show ((items.toList.drop (sIx items.size 0 lo)).take (sIx items.size items.size hi - sIx items.size 0 lo)).toArray.size ≤ sizeLine
    rw [List.size_toArray, List.length_take, List.length_drop, Array.length_toList]
    omega
  have hj : sIx items.size items.size hi ≤ items.size := sIx_le _ _ (Nat.le_refl _) hi
  obtain ⟨os, hos, hcs, hds⟩ := id hs
  have hTs : s.TypeIs (.ref sl) "slice" := ⟨os, hos, hcs⟩
  unfold getItem
  try with_reducible refine wpAny_holding ?_
  first | refine wpAny_bind (wpAny_pure ?_) | skip
  refine wpAny_bind (wpAny_sequenceKey ht.typeIs (by decide) ?_)
  refine wpAny_bind (wpAny_callSpecial?_slot (name := Str.ofString "__getitem__") ht.typeIs PyProof.Rows.slot_tuple_getitem
    (wpAny_call_entry PyProof.Rows.slot_tuple_getitem ht.typeIs entry_tuple_getitem ?_ (args_tuple_getitem _ _)))
  show wpAny _ _ (Builtin.Tuple.tupleItemsOf (.ref t) >>= _) _ _ s
  refine wpAny_bind (tupleItemsOf_ ht ?_)
  refine wpAny_bind (wpAny_typeOf hTs ?_)
  rw [if_pos (by decide)]
  refine wpAny_bind (sliceApplied_gen hs pl pu ?_)
  have hno : ¬ ((((sIx items.size 0 lo : Nat) : Int) == 0 && (1 : Int) == 1 && (sIx items.size items.size hi - sIx items.size 0 lo) == items.size) = true) := by
    intro q
    rw [Bool.and_eq_true, Bool.and_eq_true] at q
    have q1 : ((sIx items.size 0 lo : Nat) : Int) = 0 := eq_of_beq q.1.1
    have q2 : sIx items.size items.size hi - sIx items.size 0 lo = items.size := eq_of_beq q.2
    exact hw ⟨by omega, by omega⟩
  show wpAny _ _ (if (((sIx items.size 0 lo : Nat) : Int) == 0 && (1 : Int) == 1 && (sIx items.size items.size hi - sIx items.size 0 lo) == items.size) = true then _ else _) _ _ s
  rw [if_neg hno, pick_gen]
  first
    | exact wpAny_bind (m := Builtin.Tuple.tupleExact _) (wpAny_newObj_type (wpAny_pure ⟨_, rfl, wpAny_pure h⟩) htake)
    | exact wpAny_bind (m := Builtin.Tuple.tupleExact _) (wpAny_newObj_type (wpAny_bind (wpAny_pure (wpAny_pure ⟨_, rfl, wpAny_pure h⟩))) htake)
    | exact wpAny_bind (wpAny_bind (m := Builtin.Tuple.tupleExact _) (wpAny_newObj_type (wpAny_pure (wpAny_pure ⟨_, rfl, wpAny_pure h⟩)) htake))
    | exact wpAny_bind (wpAny_bind (m := Builtin.Tuple.tupleExact _) (wpAny_newObj_type (wpAny_pure ⟨_, rfl, wpAny_pure h⟩) htake))
end
end HT

namespace L2
open PySem PySem.Spec PyProof.Rows

/-! ### the parts of a slice -/
abbrev TO := St → Hp → (Option Int → Hp → Prop) → Prop
/-- a slice's part (left out, or an int) -/
def PO (X : Cx) (e : Option Expr) (t : TO) : Prop :=
  ∀ (pins : List (Addr × Obj)) (s : Shared) (σ : St) (H : Hp) (Q : Option Int → Hp → Prop), Inv X pins σ H s → t σ H Q →
    wpAny (model X.prog X.w) X.A (evalPart e X.env) (fun u s' => ∃ o H', Inv X pins σ H' s' ∧ IsPart u o ∧ Q o H') X.xe s
def tNoPart : TO := fun _ H Q => Q none H
def tPart (t : TE) : TO := fun σ H Q => t σ H fun x H1 => ∃ i, x = .int i ∧ Q (some i) H1

theorem intsAre_of {ns : List Int} : ∀ {us : List Value}, Vals (ns.map V.int) us → IntsAre us ns := by
  induction ns with
  | nil => intro us r; rw [List.map_nil] at r; cases r; exact .nil
  | cons n ns ih =>
    intro us r
    rw [List.map_cons] at r
    cases r with
    | cons r1 r2 =>
      obtain ⟨t, e⟩ := r1
      subst e
      exact .cons n t (ih r2)

section
variable {X : Cx} {e : Expr} {te : TE} {lo hi : Option Expr} {tl th : TO} {pos p2 : Pos}

theorem po_none : PO X none tNoPart := by
  intro pins s σ H Q I h
  rw [evalPart_none]
  exact wpAny_pure ⟨none, H, I, .none, h⟩
theorem po_some (h : PE X e te) : PO X (some e) (tPart te) := by
  intro pins s σ H Q I hw
  rw [evalPart_some]
  refine thn (h pins s σ H _ I hw) fun u s1 ⟨x, H1, I1, r1, q1⟩ => ?_
  obtain ⟨i, rfl, q⟩ := q1
  obtain ⟨t, rfl⟩ := r1
  exact ⟨some i, H1, I1, .int i t, q⟩

/-- what a slice of a value is, by values: the slice object stands at sl -/
def SlR (X : Cx) (r : V → Option Int → Option Int → Hp → VK → Prop) : Prop :=
  ∀ (pins : List (Addr × Obj)) (s : Shared) (σ : St) (H : Hp) (x : V) (v vl vu : Value) (lo hi : Option Int) (sl : Addr) (Q : VK), Inv X pins σ H s → RelV x v → s.heap.IsSliceOf sl vl vu .none → IsPart vl lo → IsPart vu hi → r x lo hi H Q →
    ∃ T id, typeLookup (.type T) "__getitem__" = pure (some (.builtin id)) ∧ s.TypeIs v T ∧ wpAny (model X.prog X.w) X.A (getItem v (.ref sl)) (EP X pins σ Q) X.xe s
def tSl (r : V → Option Int → Option Int → Hp → VK → Prop) (te : TE) (tl th : TO) : TE := fun σ H Q => te σ H fun x H1 => tl σ H1 fun l H2 => th σ H2 fun u H3 => r x l u H3 Q
/-- a[lo:hi], any a -/
theorem pe_slice {r : V → Option Int → Option Int → Hp → VK → Prop} (hr : SlR X r) (he : PE X e te) (hl : PO X lo tl) (hu : PO X hi th) : PE X (.Subscript e (.Slice lo hi none p2) pos) (tSl r te tl th) := by
  intro pins s σ H Q I h
  refine Subscript_ (thn (he pins s σ H _ I h) fun v s1 ⟨x, H1, I1, r1, q1⟩ => ?_)
  refine wpAny_Slice (thn (hl pins s1 σ H1 _ I1 q1) fun vl s2 ⟨l, H2, I2, pl, q2⟩ => thn (hu pins s2 σ H2 _ I2 q2) fun vu s3 ⟨u, H3, I3, pu, q3⟩ => ?_)
  rw [evalPart_none]
  refine wpAny_pure ?_
  have I4 : Inv X pins σ H3 { s3 with heap := s3.heap.push { cls := .type "slice", data := .fields #[vl, vu, .none] } } := I3.kept (t' := s3.toks) fun b ob q => Heap.get?_push_of_some _ q
  obtain ⟨T, id, hT, ht, hg⟩ := hr pins { s3 with heap := s3.heap.push { cls := .type "slice", data := .fields #[vl, vu, .none] } } σ H3 x v vl vu l u s3.heap.objs.size Q I4 r1 (Heap.IsSliceOf.new ..) pl pu q3
  show wpAny (model X.prog X.w) X.A (subscriptTail e (.Slice lo hi none p2) v (.ref s3.heap.objs.size)) (EP X pins σ Q) X.xe { s3 with heap := s3.heap.push { cls := .type "slice", data := .fields #[vl, vu, .none] } }
  exact tail_any (ops := [.ref s3.heap.objs.size, v]) ht hT hg (by with_unfolding_all rfl)

/-- the items of xs[lo:hi] -/
def cutV (xs : List V) (lo hi : Option Int) : List V := (xs.drop (HT.sIx xs.length 0 lo)).take (HT.sIx xs.length xs.length hi - HT.sIx xs.length 0 lo)
theorem cutV_length (xs : List V) (lo hi : Option Int) : (cutV xs lo hi).length ≤ xs.length := by
  unfold cutV
  rw [List.length_take, List.length_drop]
  omega
/-- t[lo:hi], not the whole of it (the whole would be t itself) -/
def rSlT (K : PySem.W.Frag) : V → Option Int → Option Int → Hp → VK → Prop := fun x lo hi H Q => ∃ a xs, x = .ref a ∧ SqT K H a xs ∧
  ¬ (HT.sIx xs.length 0 lo = 0 ∧ HT.sIx xs.length xs.length hi = xs.length) ∧ ∀ p, H p = none → Q (.ref p) (upd H p (.tup (cutV xs lo hi)))
theorem sl_tup : SlR X (rSlT X.K) := by
  intro pins s σ H x v vl vu lo hi sl Q I rx hs pl pu h
  obtain ⟨a, xs, rfl, hx, hw, q⟩ := h
  cases rx
  obtain ⟨its, r, ht, hz⟩ := I.tuple hx
  have hlen : its.toArray.size = xs.length := by rw [List.size_toArray]; exact r.length.symm
  refine ⟨"tuple", _, PyProof.Rows.slot_tuple_getitem.lookup, ht.typeIs, ?_⟩
  refine HT.getItem_tuple_cut ht hs pl pu (by rw [hlen]; exact hw) ?_ (by rw [hlen]; exact hz)
  rw [hlen]
  refine ⟨.ref s.heap.objs.size, _, I.laid (t' := s.toks) (o := .tup (cutV xs lo hi)) (fun b ob q => Heap.get?_push_of_some _ q) (Nat.le_refl _) ?_, rfl, q _ (I.hok.fresh (Nat.le_refl _))⟩
  exact ⟨Nat.le_trans (cutV_length xs lo hi) hz, _, (r.drop (HT.sIx xs.length 0 lo)).take (HT.sIx xs.length xs.length hi - HT.sIx xs.length 0 lo), IsTup.new _ _⟩

/-! ### t < u, t + u -/
/-- t + u, t not empty: u empty gives t itself -/
def rCatT (K : PySem.W.Frag) : R2 := fun x y H Q => ∃ a b xs ys, x = .ref a ∧ y = .ref b ∧ SqT K H a xs ∧ SqT K H b ys ∧ xs ≠ [] ∧ xs.length + ys.length ≤ sizeLine ∧
  (ys = [] → Q (.ref a) H) ∧ (ys ≠ [] → ∀ p, H p = none → Q (.ref p) (upd H p (.tup (xs ++ ys))))
theorem Vals.nil_iff {xs : List V} {us : List Value} (r : Vals xs us) : us = [] ↔ xs = [] := by
  cases r with
  | nil => simp
  | cons _ _ => simp
theorem op_catT : OpR X (binaryOp .Add) (rCatT X.K) := by
  intro pins s σ H x y v u Q I rx ry h
  obtain ⟨a, b, xs, ys, rfl, rfl, ha, hb, hx, hz, q1, q2⟩ := h
  cases rx
  cases ry
  obtain ⟨its, r1, p1, _⟩ := I.tuple ha
  obtain ⟨its2, r2, p2, _⟩ := I.tuple hb
  refine HT.cat_tup p1 p2 (fun z => hx (r1.nil_iff.mp z)) (fun z => ⟨.ref a, H, I, rfl, q1 (r2.nil_iff.mp z)⟩) (fun z => ?_) (by rw [← r1.length, ← r2.length]; exact hz)
  refine ⟨.ref s.heap.objs.size, _, I.laid (t' := s.toks) (o := .tup (xs ++ ys)) (fun b ob q => Heap.get?_push_of_some _ q) (Nat.le_refl _) ?_, rfl, q2 (fun w => z (r2.nil_iff.mpr w)) _ (I.hok.fresh (Nat.le_refl _))⟩
  exact ⟨by rw [List.length_append]; exact hz, _, r1.append r2, IsTup.new _ _⟩
end
end L2

namespace L2
open PySem PySem.Spec PyProof.Rows

/-! ### places -/
/-- the place that an index of any sign means -/
def ixN (n : Nat) (i : Int) : Option Nat := if 0 ≤ i then (if i < n then some i.toNat else none) else if -(n : Int) ≤ i then some (i + n).toNat else none
def atI {α : Type} (xs : List α) (i : Int) : Option α := (ixN xs.length i).bind fun j => xs[j]?
theorem ixN_seq {n : Nat} {i : Int} {j : Nat} (h : ixN n i = some j) : seqIndex? i n = some j ∧ j < n ∧ -(n : Int) ≤ i ∧ i < n := by
  unfold ixN at h
  by_cases h0 : 0 ≤ i
  · rw [if_pos h0] at h
    by_cases h1 : i < n
    · rw [if_pos h1] at h
      have e : i.toNat = j := Option.some.inj h
      exact ⟨by rw [seqIndex_of h0 h1, e], by omega, by omega, h1⟩
    · rw [if_neg h1] at h; cases h
  · rw [if_neg h0] at h
    by_cases h1 : -(n : Int) ≤ i
    · rw [if_pos h1] at h
      have e : (i + n).toNat = j := Option.some.inj h
      exact ⟨by rw [seqIndex_neg (by omega) h1, e], by omega, h1, by omega⟩
    · rw [if_neg h1] at h; cases h
theorem atI_get {α : Type} {xs : List α} {i : Int} {v : α} (h : atI xs i = some v) : ∃ j, seqIndex? i xs.length = some j ∧ xs[j]? = some v ∧ j < xs.length ∧ -(xs.length : Int) ≤ i ∧ i < xs.length := by
  unfold atI at h
  cases e : ixN xs.length i with
  | none => rw [e] at h; cases h
  | some j =>
    rw [e] at h
    obtain ⟨h1, h2, h3, h4⟩ := ixN_seq e
    exact ⟨j, h1, h, h2, h3, h4⟩
theorem atI_nat {α : Type} {xs : List α} {j : Nat} {v : α} (h : xs[j]? = some v) : atI xs (j : Int) = some v := by
  have hj : j < xs.length := (List.getElem?_eq_some_iff.mp h).1
  have e : ixN xs.length (j : Int) = some j := by
    unfold ixN
    rw [if_pos (by omega), if_pos (by omega)]; simp
  unfold atI; rw [e]; exact h
/-! ### what may be subscripted -/
/-- what stands as an index of a plain subscript -/
def PlainIx (b : Expr) : Prop := ∀ o i, subscripted b false o i = operate [o, i] (getItem o i)
/-- a subscript by values -/
def IxR (X : Cx) (r : R2) : Prop :=
  ∀ (value slice : Expr) (pins : List (Addr × Obj)) (s : Shared) (σ : St) (H : Hp) (x y : V) (v u : Value) (Q : VK), Inv X pins σ H s → RelV x v → RelV y u → r x y H Q →
    subscripted slice false v u = operate [v, u] (getItem v u) → wpAny (model X.prog X.w) X.A (subscriptTail value slice v u) (EP X pins σ Q) X.xe s
/-- a call of a builtin's method by values: the receiver, the arguments -/
def MtR (X : Cx) (id : String) (r : V → List V → Hp → VK → Prop) : Prop :=
  ∀ (pins : List (Addr × Obj)) (s : Shared) (σ : St) (H : Hp) (x : V) (xs : List V) (v : Value) (us : List Value) (Q : VK), Inv X pins σ H s → RelV x v → Vals xs us → r x xs H Q →
    wpAny (model X.prog X.w) X.A (call (.builtin id) (v :: us)) (EP X pins σ Q) X.xe s
section
variable {X : Cx} {a b : Expr} {ta tb : TE} {pos : Pos}
/-- a[b] -/
theorem pe_ix {r : R2} (hr : IxR X r) (ha : PE X a ta) (hb : PE X b tb) (hs : PlainIx b) : PE X (.Subscript a b pos) (tOp r ta tb) := by
  intro pins s σ H Q I h
  exact Subscript_ (binT ha hb I h fun v u s2 x y H2 I2 rx ry q => hr a b pins s2 σ H2 x y v u Q I2 rx ry q (hs _ _))

def rIxL (K : PySem.W.Frag) : R2 := fun x y H Q => ∃ p xs i v, x = .ref p ∧ y = .int i ∧ SqL K H p xs ∧ atI xs i = some v ∧ Q v H
def rIxT (K : PySem.W.Frag) : R2 := fun x y H Q => ∃ p xs i v, x = .ref p ∧ y = .int i ∧ SqT K H p xs ∧ atI xs i = some v ∧ Q v H
theorem ix_list : IxR X (rIxL X.K) := by
  intro value slice pins s σ H x y v u Q I rx ry h hs
  obtain ⟨p, xs, i, z, rfl, rfl, hq, he, q⟩ := h
  cases rx
  obtain ⟨t, rfl⟩ := ry
  obtain ⟨its, r, pl, hz⟩ := I.list hq
  obtain ⟨j, h1, h2, h3, h4, h5⟩ := atI_get he
  obtain ⟨w, ew, rw'⟩ := r.get h2
  have hl := r.length
  have hn := line63
  have fin : EP X pins σ Q w s := ⟨z, H, I, rw', q⟩
  by_cases h0 : 0 ≤ i
  · have hj : i.toNat = j := by
      rw [seqIndex_of h0 h5] at h1
      exact Option.some.inj h1
    exact item_listR pl.isList h0 (by omega) (by rw [hj]; simpa using ew) fin hs
  · have hj : (i + (its.toArray.size : Int)).toNat = j := by
      rw [seqIndex_neg (by omega) h4] at h1
      rw [List.size_toArray, ← hl]
      exact Option.some.inj h1
    exact subscriptTail_builtinR (x := w) pl.isList.typeIs slot_list_getitem.lookup
      (wpAny_getItem_list_neg (Q := fun r s' => r = w ∧ EP X pins σ Q r s') pl.isList (by omega) (by rw [List.size_toArray] <;> omega) (by omega) (by rw [hj]; simpa using ew) ⟨rfl, fin⟩) hs
theorem ix_tup : IxR X (rIxT X.K) := by
  intro value slice pins s σ H x y v u Q I rx ry h hs
  obtain ⟨p, xs, i, z, rfl, rfl, hq, he, q⟩ := h
  cases rx
  obtain ⟨t, rfl⟩ := ry
  obtain ⟨its, r, pl, hz⟩ := I.tuple hq
  obtain ⟨j, h1, h2, h3, h4, h5⟩ := atI_get he
  obtain ⟨w, ew, rw'⟩ := r.get h2
  have hl := r.length
  have hn := line63
  have fin : EP X pins σ Q w s := ⟨z, H, I, rw', q⟩
  exact subscriptTail_builtinR (x := w) pl.typeIs slot_tuple_getitem.lookup
    (getItem_tuple (j := j) (Q := fun r s' => r = w ∧ EP X pins σ Q r s') pl (by omega) (by omega) (by rw [List.size_toArray, ← hl]; exact h1) (by simpa using ew) ⟨rfl, fin⟩) hs
/-! ### xs[i] = v, any sign -/
/-- the list's object behind a store -/
theorem mapSeq_set (its : List Value) (n j : Nat) (u : Value) : Obj.mapSeq (·.setIfInBounds j u) { cls := .type "list", data := .seq its.toArray n } = { cls := .type "list", data := .seq (its.set j u).toArray n } := by
  simp [Obj.mapSeq]
theorem Inv.lst {pins : List (Addr × Obj)} {σ : St} {H : Hp} {s : Shared} {p : Addr} {xs : List V} (I : Inv X pins σ H s) (h : H p = some (.lst xs)) :
    ∃ (its : List Value) (n : Nat), Vals xs its ∧ s.heap.get? p = some { cls := .type "list", data := .seq its.toArray n } ∧ xs.length ≤ sizeLine := by
  obtain ⟨z, its, n, r, e⟩ := I.hok p _ h
  exact ⟨its, n, r, e, z⟩
/-- the list at p is written by an update of its object -/
theorem Inv.lstUpd {pins : List (Addr × Obj)} {σ : St} {H : Hp} {s : Shared} {p : Addr} {xs ys : List V} {its its' : List Value} {n n' : Nat} {f : Obj → Obj} (I : Inv X pins σ H s) (h : H p = some (.lst xs))
    (ho : s.heap.get? p = some { cls := .type "list", data := .seq its.toArray n }) (hf : f { cls := .type "list", data := .seq its.toArray n } = { cls := .type "list", data := .seq its'.toArray n' }) (r : Vals ys its') (hz : ys.length ≤ sizeLine) (t : Nat) :
    Inv X pins σ (upd H p (.lst ys)) { s with heap := s.heap.update p f, toks := t } := by
  have e : (s.heap.update p f).get? p = some { cls := .type "list", data := .seq its'.toArray n' } := by
    rw [Heap.get?_update_self f ho (by rw [hf] <;> rfl), hf]
  refine I.write (x := p) (e := p) (by rw [h]; trivial) (.inl rfl) (fun b u hb q => (Heap.get?_update_other _ _ (Ne.symm hb)).trans q) ⟨_, e⟩ ?_
  exact ⟨hz, its', n', r, e⟩
def rSetL : V → V → V → Hp → (Hp → Prop) → Prop := fun o i v H Q => ∃ p xs k j, o = .ref p ∧ i = .int k ∧ H p = some (.lst xs) ∧ ixN xs.length k = some j ∧ Q (upd H p (.lst (xs.set j v)))
theorem set_list : PSet X rSetL := by
  intro pins s σ H o i v ov iv u Q I ro ri rv h
  obtain ⟨p, xs, k, j, rfl, rfl, hp, hj, q⟩ := h
  cases ro
  obtain ⟨t, rfl⟩ := ri
  obtain ⟨its, n, r, ho, hz⟩ := I.lst hp
  obtain ⟨h1, h2, h3, h4⟩ := ixN_seq hj
  have hl := r.length
  have hn := line63
  have I' : Inv X pins σ (upd H p (.lst (xs.set j v))) { s with heap := s.heap.update p (Obj.mapSeq (·.setIfInBounds j u)) } :=
    I.lstUpd hp ho (mapSeq_set its n j u) (r.set rv j) (by rw [List.length_set]; exact hz) s.toks
  by_cases h0 : 0 ≤ k
  · have hk : k.toNat = j := by
      rw [seqIndex_of h0 h4] at h1
      exact Option.some.inj h1
    exact PySem.W.ki_setAt ho h0 (by omega) (by rw [List.size_toArray, ← hl]; exact h4) (by rw [hk]; exact ⟨_, I', q⟩)
  · have hk : (k + (its.toArray.size : Int)).toNat = j := by
      rw [seqIndex_neg (by omega) h3] at h1
      rw [List.size_toArray, ← hl]
      exact Option.some.inj h1
    exact PySem.W.ki_setBack ho (by omega) (by rw [List.size_toArray, ← hl]; exact h3) (by omega) (by rw [hk]; exact ⟨_, I', q⟩)

/-! ### slices -/
/-! ### in, not in: flat items -/
/-! ### len, list(x), tuple(x) of any list or tuple that is read -/
theorem call_len_seq : CallR X (.builtin "len") (fun xs H Q => ∃ p ys, xs = [.ref p] ∧ (SqL X.K H p ys ∨ SqT X.K H p ys) ∧ Q (.int ys.length) H) := by
  intro pins s σ H xs us Q I r h
  obtain ⟨p, ys, rfl, hq, q⟩ := h
  obtain ⟨u, rfl, rx⟩ := vals1 r
  cases rx
  have hn := line63
  rcases hq with hq | hq
  · obtain ⟨its, r', pl, hz⟩ := I.list hq
    have hlen := r'.length
    exact Calls.call_len_list pl.isList (by simp only [List.size_toArray] <;> omega) ⟨.int ys.length, H, I.tok _, ⟨s.toks + 1, by rw [List.size_toArray, hlen]⟩, q⟩
  · obtain ⟨its, r', pl, hz⟩ := I.tuple hq
    have hlen := r'.length
    exact len_tuple pl (by simp only [List.size_toArray] <;> omega) ⟨.int ys.length, H, I.tok _, ⟨s.toks + 1, by rw [List.size_toArray, hlen]⟩, q⟩
theorem call_list_of : CallR X (.type "list") (fun xs H Q => ∃ p ys, xs = [.ref p] ∧ (SqL X.K H p ys ∨ SqT X.K H p ys) ∧ ∀ l, H l = none → Q (.ref l) (upd H l (.lst ys))) := by
  intro pins s σ H xs us Q I r h
  obtain ⟨p, ys, rfl, hq, q⟩ := h
  obtain ⟨u, rfl, rx⟩ := vals1 r
  cases rx
  have fin : ∀ (its : List Value), Vals ys its → ys.length ≤ sizeLine → ∀ (h' : Heap) (c' : Nat), (∀ b o', s.heap.get? b = some o' → h'.get? b = some o') →
      h'.get? s.heap.objs.size = some { cls := .type "list", dict := none, data := .seq its.toArray c', slots := #[] } → EP X pins σ Q (.ref s.heap.objs.size) { s with heap := h' } := fun its r' hz h' c' kp e =>
    ⟨.ref s.heap.objs.size, _, I.laid (t' := s.toks) kp (Nat.le_refl _) (show ObjOk X.prog X.w _ h' _ (.lst ys) from ⟨hz, its, c', r', e⟩), rfl, q _ (I.hok.fresh (Nat.le_refl _))⟩
  rcases hq with hq | hq
  · obtain ⟨its, r', pl, hz⟩ := I.list hq
    have hlen := r'.length
    obtain ⟨o, ho, hc, n, hd⟩ := pl.isList
    exact call_list_seq p (.inl rfl) ho hc hd (fun h' c' kp e => fin its r' hz h' c' kp e) (by simp only [List.size_toArray] <;> omega)
  · obtain ⟨its, r', pl, hz⟩ := I.tuple hq
    have hlen := r'.length
    obtain ⟨o, ho, hc, n, hd⟩ := pl
    exact call_list_seq p (.inr rfl) ho hc hd (fun h' c' kp e => fin its r' hz h' c' kp e) (by simp only [List.size_toArray] <;> omega)
theorem call_tuple_of : CallR X (.type "tuple") (fun xs H Q => ∃ p ys, xs = [.ref p] ∧ ((SqL X.K H p ys ∧ ∀ l, H l = none → Q (.ref l) (upd H l (.tup ys))) ∨ (SqT X.K H p ys ∧ Q (.ref p) H))) := by
  intro pins s σ H xs us Q I r h
  obtain ⟨p, ys, rfl, h⟩ := h
  obtain ⟨u, rfl, rx⟩ := vals1 r
  cases rx
  rcases h with ⟨hq, q⟩ | ⟨hq, q⟩
  · obtain ⟨its, r', pl, hz⟩ := I.list hq
    have hlen := r'.length
    refine call_tuple_list pl.isList (fun h' kp => ?_) (by simp only [List.size_toArray] <;> omega)
    have I1 : Inv X pins σ H { s with heap := h' } := I.kept (t' := s.toks) kp
    have I2 : Inv X pins σ (upd H h'.objs.size (.tup ys)) { s with heap := h'.push { cls := .type "tuple", data := .seq its.toArray } } :=
      I1.laid (t' := s.toks) (fun b o e => Heap.get?_push_of_some _ e) (Nat.le_refl _) (show ObjOk X.prog X.w _ _ _ (.tup ys) from ⟨hz, its, r', IsTup.new _ _⟩)
    exact ⟨.ref h'.objs.size, _, I2, rfl, q _ (I1.hok.fresh (Nat.le_refl _))⟩
  · obtain ⟨its, r', pl, hz⟩ := I.tuple hq
    exact call_tuple_same pl ⟨.ref p, H, I, rfl, q⟩

/-! ### the call of a builtin's method: o.m(..) -/
/-- the value is of that builtin type -/
def tyV (K : PySem.W.Frag) (T : String) (x : V) (H : Hp) : Prop := match x with
  | .str _ => T = "str"
  | .int _ => T = "int"
  | .ref p => (T = "list" ∧ ∃ xs, SqL K H p xs) ∨ (T = "tuple" ∧ ∃ o, K.lookup p = some o ∧ o.cls = .type "tuple" ∧ o.dict = none) ∨
      (T = "dict" ∧ ((∃ kvs, H p = some (.dK kvs)) ∨ ∃ kvs, H p = some (.dT kvs))) ∨ (T = "set" ∧ ∃ S n, H p = some (.set S n))
  | _ => False
theorem tyV_is {pins : List (Addr × Obj)} {σ : St} {H : Hp} {s : Shared} {T : String} {x : V} {v : Value} (I : Inv X pins σ H s) (r : RelV x v) (ty : tyV X.K T x H) :
    s.TypeIs v T ∧ ∀ a, v = .ref a → ∃ ob, s.heap.get? a = some ob ∧ ob.dict = none := by
  cases x with
  | str z =>
    obtain ⟨t, rfl⟩ := r
    cases (show T = "str" from ty)
    exact ⟨typeIs_str s z t, fun _ e => nomatch e⟩
  | int i =>
    obtain ⟨t, rfl⟩ := r
    cases (show T = "int" from ty)
    exact ⟨typeIs_int s i t, fun _ e => nomatch e⟩
  | ref p =>
    cases r
    rcases ty with ⟨rfl, xs, hq⟩ | ⟨rfl, o, hk, hc, hd⟩ | ⟨rfl, hk⟩ | ⟨rfl, S, n, hk⟩
    · obtain ⟨its, _, pl, _⟩ := I.list hq
      refine ⟨pl.isList.typeIs, fun a e => ?_⟩
      cases e
      obtain ⟨o, n, e, c, hd, _⟩ := pl
      exact ⟨o, e, hd⟩
    · refine ⟨⟨o, I.kIn p o hk, hc⟩, fun a e => ?_⟩
      cases e
      exact ⟨o, I.kIn _ o hk, hd⟩
    · have z : ∃ o, s.heap.get? p = some o ∧ o.ExactDict := by
        rcases hk with ⟨kvs, hk⟩ | ⟨kvs, hk⟩
        · obtain ⟨_, _, _, _, o, _, _, e, ex, _⟩ := I.hok p _ hk
          exact ⟨o, e, ex⟩
        · obtain ⟨_, _, _, _, o, _, _, e, ex, _⟩ := I.hok p _ hk
          exact ⟨o, e, ex⟩
      obtain ⟨o, e, ex⟩ := z
      refine ⟨⟨o, e, ex.1⟩, fun a e2 => ?_⟩
      cases e2
      exact ⟨o, e, ex.2.1⟩
    · obtain ⟨o, _, _, _, e, ex, _⟩ := I.hok p _ hk
      refine ⟨⟨o, e, ex.1⟩, fun a e2 => ?_⟩
      cases e2
      exact ⟨o, e, ex.2.1⟩
  | _ => exact False.elim ty
def tBM0 (K : PySem.W.Frag) (T : String) (r : V → List V → Hp → VK → Prop) (to : TE) : TE := fun σ H Q => to σ H fun x H1 => tyV K T x H1 ∧ r x [] H1 Q
def tBM (K : PySem.W.Frag) (T : String) (r : V → List V → Hp → VK → Prop) (to : TE) (t : TA) : TE := fun σ H Q => to σ H fun x H1 => tyV K T x H1 ∧ t σ H1 fun xs H2 => r x xs H2 Q
variable {o e : Expr} {es : List Expr} {to : TE} {t : TA} {name : Str} {apos cpos : Pos} {T id : String} {r : V → List V → Hp → VK → Prop}
theorem pe_bm0 (pa : PlainAttrs T) (slot : Slot T name id) (hty : typeOf (.builtin id) = pure (.type "method_descriptor")) (hm : MtR X id r) (ho : PE X o to)
    (hbase : attributeBase o name X.env (eval o X.env) = eval o X.env := by rfl) (hline : (apos.endLine == cpos.line) = true := by rfl) : PE X (.Call (.Attribute o name apos) [] [] cpos) (tBM0 X.K T r to) := by
  intro pins s σ H Q I h
  refine wpAny_Call_method0_late hbase hline (thn (ho pins s σ H _ I h) fun v s1 ⟨x, H1, I1, r1, ty, q1⟩ => ?_)
  obtain ⟨h1, h2⟩ := tyV_is I1 r1 ty
  exact ⟨T, id, pa, slot, hty, h1, h2, Calls.callWith_builtin rfl (PySem.evalArgs_none (hm pins s1 σ H1 x [] v [] Q I1 r1 .nil q1))⟩
theorem pe_bm (pa : PlainAttrs T) (slot : Slot T name id) (hty : typeOf (.builtin id) = pure (.type "method_descriptor")) (hm : MtR X id r) (ho : PE X o to) (ha : PA X (e :: es) t)
    (hbase : attributeBase o name X.env (eval o X.env) = eval o X.env := by rfl)
    (hfew : ((backTo cpos (starEach (e :: es) X.env)).all (fun x => !x.1) && (backToKw cpos (keywordEach [] X.env)).all (fun x => x.1.isSome)
      && decide ((e :: es).length + ([] : List Keyword).length + (if ([] : List Keyword).isEmpty then 0 else 1) < 30)) = true := by rfl)
    (hline : (apos.endLine == cpos.line) = true := by rfl) (hs : starEach (e :: es) X.env = (false, eval e X.env) :: starEach es X.env := by rfl) (hplain : (backTo cpos (starEach es X.env)).any (·.1) = false := by rfl) :
    PE X (.Call (.Attribute o name apos) (e :: es) [] cpos) (tBM X.K T r to t) := by
  intro pins s σ H Q I h
  refine wpAny_Call_method_late hbase hfew hline rfl (thn (ho pins s σ H _ I h) fun v s1 ⟨x, H1, I1, r1, ty, q1⟩ => ?_)
  obtain ⟨h1, h2⟩ := tyV_is I1 r1 ty
  refine ⟨T, id, pa, slot, hty, h1, h2, ?_⟩
  have hA := ha cpos pins s1 σ H1 _ I1 q1
  rw [hs] at hA ⊢
  refine Calls.callWith_builtin (by show (false || (backTo cpos (starEach es X.env)).any (·.1)) = false; rw [hplain] <;> rfl) (Calls.evalArgs_plain ?_)
  exact thn hA fun us s2 ⟨vs, H2, I2, r2, q2⟩ => hm pins s2 σ H2 x vs v us Q I2 r1 r2 q2
/- xs.append(e), list.index on a module's tuple .. are MtR facts of 06m -/
end
end L2

namespace L2
open PySem PySem.Spec PyProof.Rows

def MtM (X : Cx) (id : String) (r : V → List V → Hp → VK → Prop) : Prop :=
  ∀ (pins : List (Addr × Obj)) (s : Shared) (σ : St) (H : Hp) (x : V) (xs : List V) (v : Value) (us : List Value) (Q : VK), Inv X pins σ H s → RelV x v → Vals xs us → r x xs H Q →
    wpAny (model X.prog X.w) X.A (call (.builtin id) (v :: us)) (EP X pins σ Q) X.xe s

/-! ### lists of values -/
theorem Vals.one : ∀ {x : V} {us : List Value}, Vals [x] us → ∃ u, us = [u] ∧ RelV x u
  | _, _, .cons r .nil => ⟨_, rfl, r⟩
theorem Vals.zero : ∀ {us : List Value}, Vals [] us → us = []
  | _, .nil => rfl
theorem Vals.dropLast {xs : List V} {us : List Value} (h : Vals xs us) : Vals xs.dropLast us.dropLast := by
  induction h with
  | nil => exact .nil
  | cons r t ih =>
    cases t with
    | nil => exact .nil
    | cons q t' => exact .cons r ih
theorem Vals.rep {xs : List V} {us : List Value} (h : Vals xs us) : ∀ k : Nat, Vals (List.replicate k xs).flatten (List.replicate k us).flatten
  | 0 => .nil
  | k + 1 => by
    rw [List.replicate_succ, List.replicate_succ, List.flatten_cons, List.flatten_cons]
    exact Vals.append h (Vals.rep h k)
theorem erase_last {α : Type} (l : List α) : l.eraseIdx (l.length - 1) = l.dropLast := by
  induction l with
  | nil => rfl
  | cons a r ih =>
    cases r with
    | nil => rfl
    | cons b r =>
      have e : (a :: b :: r).length - 1 = ((b :: r).length - 1) + 1 := by
        have h1 : (a :: b :: r).length = r.length + 2 := rfl
        have h2 : (b :: r).length = r.length + 1 := rfl
        omega
      rw [e, List.eraseIdx_cons_succ, ih]
      all_goals rfl
theorem foldl_rep (its : List Value) : ∀ (k : Nat) (acc : List Value),
    List.foldl (fun x1 x2 => x1 ++ x2) acc.toArray (List.replicate k its.toArray) = (acc ++ (List.replicate k its).flatten).toArray
  | 0, acc => by simp
  | k + 1, acc => by
    have e : acc.toArray ++ its.toArray = (acc ++ its).toArray := by simp
    have e2 : (acc ++ its) ++ (List.replicate k its).flatten = acc ++ (List.replicate (k + 1) its).flatten := by
      rw [List.replicate_succ, List.flatten_cons, List.append_assoc]
    rw [← e2, ← foldl_rep its k (acc ++ its), ← e, List.replicate_succ, List.foldl_cons]

section
variable {X : Cx} {pins : List (Addr × Obj)} {σ : St} {H : Hp} {s : Shared} {l b : Addr} {xs ys zs : List V}

/-! ### the two steps: a tracked list is rewritten, a new list is laid -/
theorem Inv.lset {its its' : List Value} {n : Nat} {f : Array Value → Array Value} {t' : Nat} (I : Inv X pins σ H s) (hH : H l = some (.lst xs))
    (e : s.heap.get? l = some { cls := .type "list", data := .seq its.toArray n }) (hf : f its.toArray = its'.toArray) (hv : Vals ys its') (hz : ys.length ≤ sizeLine) :
    Inv X pins σ (upd H l (.lst ys)) { s with heap := s.heap.update l (Obj.mapSeq f), toks := t' } := by
  have q := PySem.IsL.update e f
  rw [hf] at q
  refine I.write (x := l) (e := l) (by rw [hH]; exact trivial) (.inl rfl) (fun b' u hb hu => (Heap.get?_update_other s.heap (Obj.mapSeq f) (Ne.symm hb)).trans hu) ⟨_, q⟩ ?_
  exact ⟨hz, its', _, hv, q⟩
theorem Inv.lnew {its : List Value} {t' : Nat} (I : Inv X pins σ H s) (hv : Vals ys its) (hz : ys.length ≤ sizeLine) :
    Inv X pins σ (upd H s.heap.objs.size (.lst ys)) { s with heap := s.heap.push { cls := .type "list", data := .seq its.toArray }, toks := t' } :=
  I.laid (fun _ _ q => Heap.get?_push_of_some _ q) (Nat.le_refl _) ⟨hz, its, 0, hv, Heap.get?_push_size _ rfl⟩
theorem Inv.fresh (I : Inv X pins σ H s) : H s.heap.objs.size = none := I.hok.fresh (Nat.le_refl _)
theorem Inv.lstM (I : Inv X pins σ H s) (hH : H l = some (.lst xs)) : xs.length ≤ sizeLine ∧ ∃ (its : List Value) (n : Nat), Vals xs its ∧ xs.length = its.length ∧ s.heap.get? l = some { cls := .type "list", data := .seq its.toArray n } := by
  obtain ⟨z, its, n, r, e⟩ := I.hok l _ hH
  exact ⟨z, its, n, r, r.length, e⟩

theorem notLongL {n : Nat} (h : n ≤ sizeLine) : Builtin.List.listTooLong n = false := by
  unfold Builtin.List.listTooLong
  exact decide_eq_false (by omega)
end

section
variable {X : Cx}

/-! ### methods -/
def rAppend : V → List V → Hp → VK → Prop := fun x vs H Q => ∃ l xs y, x = .ref l ∧ vs = [y] ∧ H l = some (.lst xs) ∧ xs.length < sizeLine ∧ Q .non (upd H l (.lst (xs ++ [y])))
theorem mt_append : MtM X "list.append" rAppend := by
  intro pins s σ H x vs v us Q I rx rv h
  obtain ⟨l, xs, y, rfl, rfl, hH, hz, q⟩ := h
  cases rx
  obtain ⟨u, rfl, ru⟩ := rv.one
  obtain ⟨z, its, n, r, hl, e⟩ := I.lstM hH
  refine call_meets F.slot_list_append ⟨_, e, rfl⟩ F.entry_list_append (F.args_list_append_2 _ _) (PySem.list_append l its.toArray n u (by rw [List.size_toArray]; omega)) ⟨e, ?_⟩
  refine ⟨.non, _, I.lset (its' := its ++ [u]) hH e (by simp) (r.append (.cons ru .nil)) ?_, rfl, q⟩
  rw [List.length_append, List.length_singleton]
  omega

def rExtend : V → List V → Hp → VK → Prop := fun x vs H Q => ∃ l b xs zs, x = .ref l ∧ vs = [.ref b] ∧ H l = some (.lst xs) ∧ H b = some (.lst zs) ∧ xs.length + zs.length ≤ sizeLine ∧ Q .non (upd H l (.lst (xs ++ zs)))
theorem mt_extend : MtM X "list.extend" rExtend := by
  intro pins s σ H x vs v us Q I rx rv h
  obtain ⟨l, b, xs, zs, rfl, rfl, hH, hB, hz, q⟩ := h
  cases rx
  obtain ⟨u, rfl, ru⟩ := rv.one
  cases ru
  obtain ⟨z, its, n, r, hl, e⟩ := I.lstM hH
  obtain ⟨z2, its2, n2, r2, hl2, e2⟩ := I.lstM hB
  have hsz : its.toArray.size + its2.toArray.size ≤ sizeLine := by rw [List.size_toArray, List.size_toArray]; omega
  have hlong : ¬ (!its.toArray.isEmpty && Builtin.List.listTooLong (its.toArray.size + its2.toArray.size)) = true := by
    rw [notLongL hsz, Bool.and_false]
    exact Bool.false_ne_true
  refine call_meets F.slot_list_extend ⟨_, e, rfl⟩ F.entry_list_extend (F.args_list_extend_2 _ _)
    (AutoSeq1.list_extend_list_list_0 l its.toArray n b its2.toArray n2 hlong (by rw [List.size_toArray]; omega) (by omega)) ⟨e, e2, ?_⟩
  refine ⟨.non, _, I.lset (its' := its ++ its2) hH e (by simp) (r.append r2) ?_, rfl, q⟩
  rw [List.length_append]
  omega

def rPop : V → List V → Hp → VK → Prop := fun x vs H Q => ∃ l xs y, x = .ref l ∧ vs = [] ∧ H l = some (.lst xs) ∧ xs[xs.length - 1]? = some y ∧ Q y (upd H l (.lst xs.dropLast))
theorem mt_pop : MtM X "list.pop" rPop := by
  intro pins s σ H x vs v us Q I rx rv h
  obtain ⟨l, xs, y, rfl, rfl, hH, hy, q⟩ := h
  cases rx
  have hus := rv.zero
  subst hus
  obtain ⟨z, its, n, r, hl, e⟩ := I.lstM hH
  obtain ⟨u, hu, ru⟩ := r.get hy
  have hy' : its.toArray[its.toArray.size - 1]? = some u := by
    show its.toArray[its.length - 1]? = some u
    rw [← Array.getElem?_toList, ← hl]
    exact hu
  refine call_meets F.slot_list_pop ⟨_, e, rfl⟩ F.entry_list_pop (F.args_list_pop_1 _) (MeetsSeq.list_pop_last l its.toArray n u hy' (by rw [List.size_toArray]; omega)) ⟨e, ?_⟩
  refine ⟨y, _, I.lset (its' := its.dropLast) hH e ?_ r.dropLast ?_, ru, q⟩
  · show its.toArray.eraseIdxIfInBounds (its.toArray.size - 1) = its.dropLast.toArray
    rw [List.size_toArray, List.eraseIdxIfInBounds_toArray, erase_last]
  · rw [List.length_dropLast]
    omega

/-! ### list + list, list += list, list * int -/
def rCat : R2 := fun x y H Q => ∃ l b xs zs, x = .ref l ∧ y = .ref b ∧ H l = some (.lst xs) ∧ H b = some (.lst zs) ∧ xs.length + zs.length ≤ sizeLine ∧ ∀ p, H p = none → Q (.ref p) (upd H p (.lst (xs ++ zs)))
theorem op_cat : OpR X (binaryOp .Add) rCat := by
  intro pins s σ H x y v u Q I rx ry h
  obtain ⟨l, b, xs, zs, rfl, rfl, hH, hB, hz, q⟩ := h
  cases rx
  cases ry
  obtain ⟨z, its, n, r, hl, e⟩ := I.lstM hH
  obtain ⟨z2, its2, n2, r2, hl2, e2⟩ := I.lstM hB
  refine PySem.P.add_list e e2 ?_ (by rw [List.size_toArray, List.size_toArray]; omega)
  have ea : its.toArray ++ its2.toArray = (its ++ its2).toArray := by simp
  rw [ea]
  exact ⟨.ref _, _, I.lnew (t' := s.toks) (r.append r2) (by rw [List.length_append]; omega), rfl, q _ I.fresh⟩
/-- a list times an int (a negative one is nothing) -/
def rRep : R2 := fun x y H Q => ∃ l k xs, x = .ref l ∧ y = .int k ∧ H l = some (.lst xs) ∧ -(2 ^ 63) ≤ k ∧ k < 2 ^ 63 ∧ xs.length * k.toNat ≤ sizeLine ∧
  ∀ p, H p = none → Q (.ref p) (upd H p (.lst (List.replicate k.toNat xs).flatten))
theorem len_rep {α : Type} (xs : List α) (k : Nat) : (List.replicate k xs).flatten.length = k * xs.length := by
  induction k with
  | zero => simp
  | succ k ih => rw [List.replicate_succ, List.flatten_cons, List.length_append, ih, Nat.succ_mul, Nat.add_comm]
theorem op_rep : OpR X (binaryOp .Mult) rRep := by
  intro pins s σ H x y v u Q I rx ry h
  obtain ⟨l, k, xs, rfl, rfl, hH, h1, h2, hz, q⟩ := h
  cases rx
  obtain ⟨t, rfl⟩ := ry
  obtain ⟨z, its, n, r, hl, e⟩ := I.lstM hH
  have hlen : its.toArray.size * k.toNat ≤ sizeLine := by rw [List.size_toArray, ← hl]; exact hz
  have hcap : ¬ its.toArray.size * k.toNat > (2 ^ 63 - 1) / 8 := by
    have : (sizeLine : Nat) ≤ (2 ^ 63 - 1) / 8 := by decide
    omega
  have hfit : ¬ (!Builtin.List.listFitsIndex k) = true := by
    rw [fitsIndex_both h1 h2]
    exact Bool.false_ne_true
  have hlong : ¬ Builtin.List.listTooLong (its.toArray.size * k.toNat) = true := by
    rw [notLongL hlen]
    exact Bool.false_ne_true
  have hnew : List.foldl (fun x1 x2 => x1 ++ x2) #[] (List.replicate (if its.toArray.isEmpty = true then 0 else k.toNat) its.toArray) = (List.replicate k.toNat its).flatten.toArray := by
    have f0 : ∀ m : Nat, List.foldl (fun x1 x2 => x1 ++ x2) #[] (List.replicate m its.toArray) = (List.replicate m its).flatten.toArray := fun m => by
      have := foldl_rep its m []
      rw [List.nil_append] at this
      exact this
    rw [f0]
    cases its with
    | nil => simp
    | cons a r' => rw [if_neg (by simp)]
  refine wpAny_binaryOp_repeat_ref (T := "list") (U := "int") (by decide) ⟨_, e, rfl⟩ (fun s' => typeIs_int s' k t) noFill_list_mul F.fills_int_mul F.slot_int_rmul repeat_list F.slot_int_index.lookup
    (call_meets F.slot_int_rmul (typeIs_int s k t) F.entry_int_rmul (F.args_int_rmul_2 _ _) (int___rmul___int_list k t l its.toArray n)
      ⟨e, rfl, ⟨_, e, rfl⟩, call_meets F.slot_list_mul ⟨_, e, rfl⟩ F.entry_list_mul (F.args_list_mul_2 _ _) (AutoListH.list___mul___list_int_3 l its.toArray n k t hfit hcap hlong) ⟨e, ?_⟩⟩)
  rw [hnew]
  exact ⟨.ref _, _, I.lnew (t' := s.toks) (r.rep k.toNat) (by rw [len_rep, Nat.mul_comm]; exact hz), rfl, q _ I.fresh⟩

/-! ### del xs[i] -/
end

/-! ### xs[a:b] = ys -/
section
variable {prog : Program} {w : World} {A : Around} {E : Value → Shared → Prop} {s : Shared}
end

section
variable {X : Cx}
end
end L2

namespace Att
open PySem PySem.W PySem.Calls PyProof.Rows

/-! ### the script -/
theorem ints_of_wellAll {P : Params} {h : Heap} : ∀ (ns : List Int) (vs : List Value), WellAll P h vs (ns.map WData.int) → IntsAre vs ns := by
  intro ns
  induction ns with
  | nil =>
    intro vs w
    rw [List.map_nil] at w
    cases w
    exact .nil
  | cons n ns ih =>
    intro vs w
    rw [List.map_cons] at w
    cases w with
    | cons a b =>
      cases a
      exact .cons _ _ (ih _ b)

theorem script_of {l : OpenLaw} {n : Nat} (hn : l.most = some n) {P : Params} {h : Heap} {args : List WData} {vals : List Value}
    (hpre : l.row.toRowW.claim.pre args = true) (hwl : WellAll P h vals args) :
    ∃ a vs ns, vals = [Value.ref a] ∧ args = [WData.list (ns.map WData.int)] ∧ h.get? a = some { cls := .type "list", data := .seq vs.toArray } ∧ IntsAre vs ns ∧ ns.length ≤ n := by
  have hsh : WShape.hasAll [] args [.list .int] = true := (pre_splitW hpre).1
  have hc : l.pre.holds [] { args := args } = true := (pre_splitW hpre).2
  obtain ⟨d, r, rfl, h1, h2⟩ := hasAllW_cons hsh
  obtain rfl := hasAllW_nil h2
  obtain ⟨xs, rfl, h3⟩ := hasW_list h1
  obtain ⟨ns, rfl⟩ := items_int h3
  have hlen : ns.length ≤ n := by
    unfold OpenLaw.pre at hc
    have h4 : (WTm.not (.lt (.lit (.int (n : Int))) (.len (.arg 0)))).holds [] { args := [.list (ns.map .int)] } = true := by
      have h4 := (holds_andW hc).1
      rw [hn] at h4
      exact h4
    have h5 := condW_of h4 (w_not (w_lt w_lit (w_len_list (w_arg rfl))))
    rw [List.length_map] at h5
    refine Nat.le_of_not_lt fun q => ?_
    have q' : (n : Int) < ((ns.length : Nat) : Int) := by omega
    first
      | (rw [decide_eq_true q'] at h5; exact absurd h5 (by decide))
      | (simp at h5; omega)
  cases hwl with
  | cons w1 w2 =>
    cases w2
    cases w1 with
    | list ho hall => exact ⟨_, _, ns, rfl, rfl, ho, ints_of_wellAll ns _ hall, hlen⟩

theorem post_true (l : OpenLaw) (args : List WData) : l.row.toRowW.claim.post args (.bool true) args = true :=
  postW_of (r := l.row.toRowW) (X := (true == true))
    (show WShape.has [] (.bool true) .bool = true by first | rfl | decide | simp [WShape.has, WShape.arms, WShape.armsAll])
    (show (WTm.eq .res (.lit (.bool true))).value [] { args := args, res := some (.bool true), after := args } = some (.bool (true == true)) from w_eq_bool (w_res rfl) w_lit) rfl

/-! ### the attachment: holds_open's last premise (the goal 'hc' behind k_head) from a wpAny of the law's body -/
/-- the same from a codeAny of the CALL (for a layer whose function contracts speak of calls) -/
theorem attach_call {l : OpenLaw} {n : Nat} {q : Program} {loose : List Str} {XP : (Str → Option Value) → Heap → Prop} {YP : World → Heap → Prop} {d : DefRec}
    (hn : l.most = some n) (hdf : d.params.defaults = [])
    (call : ∀ (w : World) (s₀ s₁ : Shared) (mg mb : Str → Option Value) (fa : Addr) (o : Obj) (pm cd doc : Value) (a : Addr) (vs : List Value) (ns : List Int),
      Ground q loose [] XP w s₀ mg mb s₁.heap → YP w s₁.heap →
      s₁.heap.get? fa = some o → o.data = .func (docDef d.name d.params d.body d.scope pm cd doc) → s₁.heap.CodeRec cd d.name → mg d.name = some (.ref fa) →
      s₁.heap.get? a = some { cls := .type "list", data := .seq vs.toArray } → IntsAre vs ns → ns.length ≤ n → s₁.gens = #[] →
      codeAny (model l.prog w) callerA (.call (.ref fa) ⟨[.ref a], []⟩) (fun r s' => r = .ok (.ret (.bool true)) ∧ OldK s₁.heap s'.heap ∧ s'.os = s₁.os ∧ AllBare s'.gens) s₁) :
    WalkO q loose XP YP l.row.toRowW d [] (fun f vs => PySem.call f vs) := by
  intro w s₀ s₁ mg mb G Y fa o pm cd doc dV kV ho hd hcd hD hmg hg args vals as hpre hlay hrd hwl hlo
  obtain rfl : dV = .none := Dflts.none hD hdf
  obtain rfl : kV = .none := Dflts.noKw hD
  obtain ⟨a, vs, ns, rfl, rfl, hobj, hints, hlen⟩ := script_of hn hpre hwl
  refine enter_call (codeAny_mono (call w s₀ s₁ mg mb fa o pm cd doc a vs ns G Y ho (fd_plain hd) hcd hmg hobj hints hlen hg) fun r s' hq => ?_)
  obtain ⟨rfl, h2, h3, h4⟩ := hq
  exact ⟨.inl ⟨.bool true, .bool true, [], rfl, fun _ => rfl, .bool true, post_true l _, fun _ => ⟨List.Pairwise.nil, fun _ hm => (nomatch hm)⟩⟩, h2, h3, h4⟩

/-! ### rules over ANY heap (no ledger) from facts about the written part K: the library's own take a ledger (News) for what they write -/
section
variable {prog : Program} {w : World} {A : Around} {E : Value → Shared → Prop} {s : Shared} {K : Frag}

/-! the whole heap as the ledger: makes every rule that writes through a ledger a rule over any heap -/
def ledger (h : Heap) (L d : Addr) : List (Addr × Obj) := (List.range h.objs.size).filterMap fun a => if a = L ∨ a = d then none else (h.get? a).map fun o => (a, o)
end
end Att

namespace L2
open PySem PySem.Spec PyProof.Rows

theorem vals_ints : ∀ {vs : List Value} {ns : List Int}, IntsAre vs ns → Vals (ns.map V.int) vs
  | _, _, .nil => .nil
  | _, _, .cons n t h => .cons ⟨t, rfl⟩ (vals_ints h)

/-- nothing is tracked but the script, known to the object (or it is an object of the module) -/
def Only (H : Hp) : Prop := ∀ b, H b = none ∨ ∃ o xs, H b = some (.frz o (.lst xs))

/-- THE HEAD: the law's promise, at the heap behind the top. F, the promise of the law's def, may use that base is part of the heap (so K.In base, base.Ns mainGlobals mg stand in Mod) -/
theorem law_call {P : Program} {w : World} {K : PySem.W.Frag} {mg mb : Str → Option Value} {CX : CXT} {k : Nat} {fa a : Addr} {fd : FuncData} {x : Str} {sp : Sp} {s₁ : Shared} {vs : List Value} {ns : List Int}
    (KX : K.In s₁.heap) (hns : s₁.heap.Ns mainGlobals mg) (hb : s₁.heap.Ns builtinsNs mb) (hbb : ∀ x : Str, x ≠ "__name__" → mb x = bootBuiltins x) (hlim : s₁.heap.NoLimit) (hg : s₁.gens = #[])
    (ha : s₁.heap.get? a = some { cls := .type "list", data := .seq vs.toArray }) (hi : IntsAre vs ns) (hl : ns.length ≤ sizeLine) (hr : Room k callerA)
    (F : ∀ base : Heap, K.In base → base.Ns mainGlobals mg → FnOk P w K mg base CX k fa fd [x] sp) (hbind : ∀ (s : Shared) (u : Value), BindsTo s fd ⟨[u], []⟩ [(x, u)])
    (hsp : ∀ H : Hp, Only H → SqL K H a (ns.map V.int) → sp [.ref a] H (fun v _ => v = .bl true) fun _ _ _ => False)
    (hCX : ∀ H e s', CX [] H s₁ (fun _ _ _ => False) e s' → False) :
    codeAny (model P w) callerA (.call (.ref fa) ⟨[.ref a], []⟩) (fun r s' => r = .ok (.ret (.bool true)) ∧ OldK s₁.heap s'.heap ∧ s'.os = s₁.os ∧ AllBare s'.gens) s₁ := by
  have rv := vals_ints hi
  have lenV := hi.length
  -- from an abstract heap in which nothing but the script may be tracked
  have core : ∀ H : Hp, Only H → SqL K H a (ns.map V.int) → HOk P w H s₁.heap → (∀ b, H b ≠ none → b = a) → (H a ≠ none → K.lookup a = none) →
      codeAny (model P w) callerA (.call (.ref fa) ⟨[.ref a], []⟩) (fun r s' => r = .ok (.ret (.bool true)) ∧ OldK s₁.heap s'.heap ∧ s'.os = s₁.os ∧ AllBare s'.gens) s₁ := by
    intro H hO hS hok hA hK
    have base_of : ∀ {b : Addr} {o : Obj}, s₁.heap.get? b = some o → H b = none → (hidT s₁.heap H).get? b = some o := fun e n => hidT_get e n
    have noA : ∀ {b : Addr} {o : Obj} {es : Array DictEntry} {ep : Nat}, s₁.heap.get? b = some o → o.data = .dict es ep → H b = none := fun {b o es ep} e d => by
      cases q : H b with
      | none => rfl
      | some u =>
        have e' : b = a := hA b (by rw [q]; simp)
        subst e'
        rw [ha] at e; cases e
        have d' : Data.seq vs.toArray _ = Data.dict es ep := d
        cases d'
    have nsK : ∀ {b : Addr} {m : Str → Option Value}, s₁.heap.Ns b m → (hidT s₁.heap H).Ns b m := fun {b m} ⟨o, es, ep, e, d, r⟩ => ⟨o, es, ep, base_of e (noA e d), d, r⟩
    have hKb : K.In (hidT s₁.heap H) := fun b o e => base_of (KX b o e) (by
      cases q : H b with
      | none => rfl
      | some u =>
        have e' : b = a := hA b (by rw [q]; simp)
        subst e'
        rw [hK (by rw [q]; simp)] at e; cases e)
    have hM : Mod K mg (hidT s₁.heap H) := ⟨hKb, nsK hns, ⟨mb, nsK hb, hbb⟩, let ⟨mc, h1, h2⟩ := hlim; ⟨mc, nsK h1, h2⟩⟩
    have e0 : Env0 P w K mg (hidT s₁.heap H) callerA [] s₁ H := ⟨rfl, hM, fun b o e => of_hidT e, Nat.le_of_eq (hidT_size _ _), trivial, fun b hb => absurd (show b ∈ ([] : List Addr) from hb) (by simp), hok, .of_eq hg⟩
    refine codeAny_mono ((F _ hKb (nsK hns)).run callerA [] s₁ H ⟨[.ref a], []⟩ [.ref a] [.ref a] _ _ hr e0 (hbind s₁ (.ref a)) (.cons rfl .nil) (hsp H hO hS)) fun r s' h => ?_
    cases r with
    | error e => exact (hCX H e s' h).elim
    | ok fl =>
      cases fl with
      | next => exact False.elim h
      | brk => exact False.elim h
      | cont => exact False.elim h
      | ret u =>
        obtain ⟨v, H', os, bare, un, hok', r', q⟩ := h
        have q' : v = .bl true := q
        subst q'
        obtain rfl : u = Value.bool true := r'
        refine ⟨rfl, OldK.of_keep fun b o e => ?_, os, bare⟩
        cases q : H b with
        | none => exact un.keep b o e q (by intro z; exact absurd (show b ∈ ([] : List Addr) from z) (by simp)) (by simp)
        | some u =>
          rcases hO b with z | ⟨ob, xs, z⟩
          · rw [q] at z; cases z
          · have z2 := un.frzs b ob _ z
            obtain ⟨e1, _⟩ := hok b _ z
            obtain ⟨e2, _⟩ := hok' b _ z2
            rw [e] at e1; cases e1
            exact e2
  cases hk : K.lookup a with
  | some o =>
    -- the script is one of the module's own objects
    have e := KX a o hk
    rw [ha] at e
    cases e
    refine core (fun _ => none) (fun _ => .inl rfl) (.inr ⟨_, vs.toArray, _, hk, rfl, rfl, rfl, by rw [List.size_toArray, lenV]; exact hl, by simpa using rv⟩) (fun b u z => by have z' : (none : Option HO) = some u := z; cases z') (fun b z => absurd rfl z) fun z => absurd rfl z
  | none =>
    refine core (fun b => if b = a then some (.frz { cls := .type "list", data := .seq vs.toArray } (.lst (ns.map V.int))) else none) (fun b => ?_) (.inl (.inr ⟨{ cls := .type "list", data := .seq vs.toArray }, if_pos rfl⟩)) (fun b u z => ?_) (fun b z => ?_) fun _ => hk
    · by_cases hb : b = a
      · exact .inr ⟨_, _, if_pos hb⟩
      · exact .inl (if_neg hb)
    · by_cases hb : b = a
      · have z' := (if_pos hb).symm.trans z
        cases z'
        subst hb
        exact ⟨ha, by rw [List.length_map]; exact hl, vs, _, rv, ha⟩
      · have z' := (if_neg hb).symm.trans z
        cases z'
    · by_cases hb : b = a
      · exact hb
      · exact absurd (if_neg hb) z
end L2

namespace L2
open PySem PySem.Spec PyProof.Rows

/-- the goal that k_head leaves (case hc), from the law's promise. F gives the function object fd (K's own) once, then the promise over every base -/
theorem walk_of {l : PySem.W.OpenLaw} {n k : Nat} {q : Program} {loose : List Str} {XP : (Str → Option Value) → Heap → Prop} {YP : World → Heap → Prop} {d : DefRec} {K : Params → PySem.W.Frag} {CX : World → CXT} {sp : World → Sp} {x : Str}
    (hn : l.most = some n) (hn2 : n ≤ sizeLine) (hdf : d.params.defaults = []) (hr : Room k callerA)
    (hY : ∀ (w : World) (h : Heap), YP w h → (K w.params).In h)
    (F : ∀ (w : World) (mg : Str → Option Value) (fa : Addr) (h : Heap), (K w.params).In h → h.Ns mainGlobals mg → mg d.name = some (.ref fa) →
      ∃ fd : FuncData, (∀ (s : Shared) (u : Value), BindsTo s fd ⟨[u], []⟩ [(x, u)]) ∧
        ∀ base : Heap, (K w.params).In base → base.Ns mainGlobals mg → FnOk l.prog w (K w.params) mg base (CX w) k fa fd [x] (sp w))
    (hsp : ∀ (w : World) (H : Hp) (a : Addr) (ns : List Int), ns.length ≤ n → Only H → SqL (K w.params) H a (ns.map V.int) → sp w [.ref a] H (fun v _ => v = .bl true) fun _ _ _ => False)
    (hCX : ∀ (w : World) (H : Hp) (s : Shared) (e : Value) (s' : Shared), CX w [] H s (fun _ _ _ => False) e s' → False) :
    PySem.W.WalkO q loose XP YP l.row.toRowW d [] (fun f vs => PySem.call f vs) := by
  refine Att.attach_call hn hdf fun w s₀ s₁ mg mb fa o pm cd doc a vs ns G Y ho hd hcd hmg hobj hints hlen hg => ?_
  have KX := hY w _ Y
  obtain ⟨fd, hb, hF⟩ := F w mg fa _ KX G.T.g hmg
  exact law_call KX G.T.g G.T.b G.T.builtins G.T.nolimit hg hobj hints (Nat.le_trans hlen hn2) hr hF hb (fun H hO hS => hsp w H a ns hlen hO hS) fun H e s' => hCX w H s₁ e s'
end L2

/-! SHORT WORDS over the layer: a def of the text, its body, what a loop and a test want. -/
namespace L2
open PySem PySem.Spec PyProof.Rows

/-! ### the text by places -/
def defArgs (s : Stmt) : Arguments := match s with
  | .FunctionDef _ a _ _ _ _ _ _ _ _ => a
  | _ => { posonlyargs := [], args := [], vararg := none, kwonlyargs := [], kw_defaults := [], kwarg := none, defaults := [] }
def defBody (s : Stmt) : List Stmt := match s with
  | .FunctionDef _ _ b _ _ _ _ _ _ _ => b
  | _ => []
def defScope (s : Stmt) : Scope := match s with
  | .FunctionDef _ _ _ _ _ _ sc _ _ _ => sc
  | _ => { kind := .function, names := [], isGenerator := false, isCoroutine := false }

/-! ### no exception leaves a def -/
abbrev CX0 : CXT := fun _ _ _ _ _ _ => False
abbrev E0 : XK := fun _ _ _ => False
theorem pass0 {X : Cx} : Passes CX0 X E0 := fun _ _ _ _ _ _ _ h => h.elim

/-! ### a def (or method) of the text as it stands behind the top -/
structure Fun (K : PySem.W.Frag) (x qual : Str) (st : Stmt) (f : Addr) (fd : FuncData) : Prop where
  ex : ∃ (oc : Value) (od : Option Addr) (kV doc pm : Value) (an : Option Addr) (cdv ct : Value) (osl : Array (Option Value)),
    fd = PySem.W.fnOf x qual (defArgs st) (defBody st) (defScope st) .none kV doc pm an cdv ct ∧ K.lookup f = some ⟨oc, od, .func fd, osl⟩ ∧ PySem.W.codeIn K cdv qual = true
  kp : PySem.W.keepIn K (.ref f) = true
section
variable {P : Program} {w : World} {K : PySem.W.Frag} {mg : Str → Option Value} {base : Heap}
/-- THE RULE for a def: its body as a term of rules, and the reading of that term -/
theorem Fun.ok {x qual : Str} {st : Stmt} {f : Addr} {fd : FuncData} {N ps : List Str} {k : Nat} {sp : Sp} (F : Fun K x qual st f fd) (S : FnScope N ps (defScope st)) (len : ∀ vs H Q E, sp vs H Q E → vs.length = ps.length)
    (hbody : ∀ (cdv : Value) (A : Around) (outer : List Env) (s : Shared) (H : Hp) (vs : List V) (Q : VK) (E : XK), Room k (A.deeper (envOfC qual (defScope st) s.heap.objs.size f cdv)) → sp vs H Q E →
      ∃ t, PSs (cxOf CX0 P w K mg base N qual (defScope st) f cdv A outer s H E).nox (defBody st) t ∧ t { nx := fun _ H' => Q .non H', rt := Q } (start N vs) H) : FnOk P w K mg base CX0 (k + 1) f fd ps sp := by
  obtain ⟨oc, od, kV, doc, pm, an, cdv, ct, osl, rfl, lk, hcd⟩ := F.ex
  refine fn_of lk hcd S len fun A outer s H vs Q E hr hsp => ?_
  obtain ⟨t, h, q⟩ := hbody cdv A outer s H vs Q E hr hsp
  exact ⟨t, h.nox, q⟩
/-- how its arguments bind (no defaults): h is «fun _ _ _ _ _ _ us hl => match us, hl with | [_, _], _ => rfl», one _ a parameter -/
theorem Fun.binds {x qual : Str} {st : Stmt} {f : Addr} {fd : FuncData} {ps : List Str} (F : Fun K x qual st f fd)
    (h : ∀ (kV doc pm : Value) (an : Option Addr) (cdv ct : Value) (us : List Value), us.length = ps.length → bindArgs (PySem.W.fnOf x qual (defArgs st) (defBody st) (defScope st) .none kV doc pm an cdv ct) ⟨us, []⟩ = pure (ps.zip us)) : Binds K fd ps [] := by
  obtain ⟨oc, od, kV, doc, pm, an, cdv, ct, osl, rfl, lk, hcd⟩ := F.ex
  exact .all (h kV doc pm an cdv ct)
theorem fun_mk {x qual : Str} {st : Stmt} {f : Addr} {oc : Value} {od an : Option Addr} {osl : Array (Option Value)} {kV doc pm cdv ct : Value} (l : K.lookup f = some ⟨oc, od, .func (PySem.W.fnOf x qual (defArgs st) (defBody st) (defScope st) .none kV doc pm an cdv ct), osl⟩)
    (c : PySem.W.codeIn K cdv qual = true) (k : PySem.W.keepIn K (.ref f) = true) : Fun K x qual st f (PySem.W.fnOf x qual (defArgs st) (defBody st) (defScope st) .none kV doc pm an cdv ct) := ⟨⟨oc, od, kV, doc, pm, an, cdv, ct, osl, rfl, l, c⟩, k⟩
end
theorem small1000 {n : Nat} (h : n ≤ 1000) : n < sizeLine := Nat.lt_of_le_of_lt h (by decide)

/-! ### expressions in short: the name that stands in the i-th slot -/
section
variable {X : Cx}
theorem pv (i : Nat) {x : Str} {pos : Pos} (hN : X.N[i]? = some x := by rfl) (hv : Vis X.env.scope x := by first | exact Or.inl rfl | exact Or.inr (Or.inl rfl) | exact Or.inr (Or.inr rfl)) (hd : (x == ("__debug__" : Str)) = false := by decide)
    (hcd : (x == ("__classdict__" : Str)) = false := by decide) : PE X (.Name x pos) (tVar i) := pe_var hN hv hd hcd
end

/-! ### tests -/
theorem iteF {A B : Prop} (h : B) : if false = true then A else B := by
  rw [if_neg Bool.false_ne_true]
  exact h
theorem iteT {A B : Prop} (h : A) : if true = true then A else B := by
  rw [if_pos rfl]
  exact h
/-! ### heaps -/
/-- all that was tracked is as it was -/
def Same (H H' : Hp) : Prop := ∀ b o, H b = some o → H' b = some o
theorem Same.refl (H : Hp) : Same H H := fun _ _ h => h
theorem Same.trans {H H1 H2 : Hp} (a : Same H H1) (b : Same H1 H2) : Same H H2 := fun c o h => b c o (a c o h)
theorem Same.free {H H' : Hp} (e : Same H H') {l : Addr} (h : H' l = Option.none) : H l = Option.none := by
  cases q : H l with
  | none => rfl
  | some o =>
    rw [e l o q] at h
    cases h
theorem Same.seq {K : PySem.W.Frag} {H H' : Hp} {a : Addr} {xs : List V} (e : Same H H') (h : SqL K H a xs) : SqL K H' a xs := by
  rcases h with (h | ⟨o, h⟩) | h
  · exact .inl (.inl (e _ _ h))
  · exact .inl (.inr ⟨o, e _ _ h⟩)
  · exact .inr h

end L2

set_option maxHeartbeats 4000000
namespace L2
open PySem PySem.Spec PyProof.Rows
/-! ### lists of pairs as tables -/
section
variable {κ : Type} [DecidableEq κ]
def valV (kvs : List (κ × V)) (k : κ) : Option V := (kvs.find? fun kv => decide (kv.1 = k)).map (·.2)
/-- in its place, or at the end -/
def putK (kvs : List (κ × V)) (k : κ) (v : V) : List (κ × V) :=
  if (kvs.any fun kv => decide (kv.1 = k)) = true then kvs.map (fun kv => if kv.1 = k then (kv.1, v) else kv) else kvs ++ [(k, v)]
theorem valV_pos {p : κ × V} {r : List (κ × V)} {k : κ} (e : p.1 = k) : valV (p :: r) k = some p.2 := by simp [valV, List.find?_cons, e]
theorem valV_neg {p : κ × V} {r : List (κ × V)} {k : κ} (e : ¬ p.1 = k) : valV (p :: r) k = valV r k := by simp [valV, List.find?_cons, e]
theorem valV_any (k : κ) : ∀ kvs : List (κ × V), (kvs.any fun kv => decide (kv.1 = k)) = (valV kvs k).isSome
  | [] => rfl
  | p :: r => by
    rw [List.any_cons]
    by_cases e : p.1 = k
    · simp only [valV_pos e, decide_eq_true e, Bool.true_or, Option.isSome_some]
    · rw [valV_neg e, decide_eq_false e, Bool.false_or]; exact valV_any k r
theorem length_putK (kvs : List (κ × V)) (k : κ) (v : V) : (putK kvs k v).length ≤ kvs.length + 1 := by
  unfold putK
  split
  · rw [List.length_map]; omega
  · rw [List.length_append, List.length_cons, List.length_nil]; omega
theorem RelO.isSome_eq {o : Option V} {u : Option Value} (r : RelO o u) : o.isSome = u.isSome := by
  cases o with
  | none => cases u with
    | none => rfl
    | some _ => exact (show False from r).elim
  | some _ => cases u with
    | none => exact (show False from r).elim
    | some _ => rfl
end


/-! ### a tracked dict, its keys ints and texts or tuples of these -/
section
variable {P : Program} {w : World} {H : Hp} {h : Heap} {a : Addr}
end

section
variable {X : Cx} {pins : List (Addr × Obj)} {σ : St} {H : Hp} {s : Shared} {a : Addr} {y v : V} {u r : Value} {o : Option V} {A : Around} {E : Value → Shared → Prop}

theorem Inv.big (I : Inv X pins σ H s) : sysModules < s.heap.objs.size := by
  have h : mainGlobals < s.heap.objs.size := (I.mod.glob.keeps I.bk).lt
  exact Nat.lt_trans (by decide) h

/-- a dict's object is replaced -/
theorem d_write {h' : Heap} {t' : Nat} {ob : HO} (I : Inv X pins σ H s) (mu : Mut (H a)) (hs : Heap.SameBut a s.heap h') (he : ∃ q, h'.get? a = some q) (new : ObjOk X.prog X.w (upd H a ob) h' a ob) :
    Inv X pins σ (upd H a ob) { s with heap := h', toks := t' } :=
  I.write (x := a) (e := a) mu (.inl rfl) (fun b q hb z => (hs.2 b hb).trans z) he new
end

section
variable {X : Cx} {pins : List (Addr × Obj)} {σ : St} {H : Hp} {s : Shared} {a : Addr} {kvs : List (Key × V)} {k : Key} {u : Value} {A : Around} {E : Value → Shared → Prop}
end


/-! ### readings and rules -/
/-- the element of a subscription, not a slice -/
def NoSl (i : Expr) : Prop := ∀ ov iv, subscripted i false ov iv = operate [ov, iv] (getItem ov iv)
theorem subD_of {prog : Program} {w : World} {A : Around} {E : Value → Shared → Prop} {s : Shared} {env : Env} {value slice : Expr} {pos : Pos} {T id : String} {Q : Value → Shared → Prop}
    (hl : typeLookup (.type T) "__getitem__" = pure (some (.builtin id))) (hs : NoSl slice)
    (h : wpAny (model prog w) A (eval value env) (fun o s₁ => wpAny (model prog w) A (eval slice env) (fun i s₂ => s₂.TypeIs o T ∧ wpAny (model prog w) A (getItem o i) Q E s₂) E s₁) E s) :
    wpAny (model prog w) A (eval (.Subscript value slice pos) env) Q E s := by
  refine Subscript_ (wpAny_mono h (fun o s₁ h₁ => wpAny_mono h₁ (fun i s₂ h₂ => ?_) fun _ _ x => x) fun _ _ x => x)
  obtain ⟨hT, h₂⟩ := h₂
  unfold subscriptTail
  refine wpAny_bind ?_
  rw [getitemInPython_of_ne hT.not_modules]
  refine wpAny_bind (wpAny_specialOf hT hl ?_)
  have fin : wpAny (model prog w) A (subscripted slice false o i) (fun r s₃ => wpAny (model prog w) A (letTemporaryGo value o r >>= fun _ => pure r) Q E s₃) E s₂ := by
    rw [hs o i]
    exact wpAny_operating (wpAny_mono h₂ (fun r s₃ h₃ => wpAny_bind (wpAny_letTemporaryGo (wpAny_pure h₃))) fun _ _ x => x)
  first
    | exact wpAny_pure (wpAny_bind fin)
    | exact wpAny_bind (wpAny_pure (wpAny_bind fin))
    | exact wpAny_bind fin

section
variable {X : Cx} {o i e value : Expr} {pos pos' tpos : Pos} {td ty tv : TE}
end


/-! ### displays -/
section
variable {X : Cx} {pos : Pos}
end

/-! ### methods -/
section
variable {X : Cx} {pins : List (Addr × Obj)} {σ : St} {H : Hp} {s : Shared} {a : Addr} {y d : V} {u r : Value} {o : Option V} {A : Around} {E : Value → Shared → Prop}
end

section
variable {X : Cx} {o e f : Expr} {apos cpos : Pos} {td ty tx : TE}
end

/-! ### dict(d): a copy -/
section
variable {X : Cx} {pins : List (Addr × Obj)} {σ : St} {H : Hp} {s : Shared} {a : Addr} {kvs : List (Key × V)} {A : Around} {E : Value → Shared → Prop}
end


section
variable {X : Cx} {pins : List (Addr × Obj)} {σ : St} {H : Hp} {s : Shared} {a : Addr} {y : V} {u : Value} {A : Around} {E : Value → Shared → Prop}
end
end L2
/-! ### my own rules over the layer -/
namespace L2
open PySem PySem.Spec PyProof.Rows
section
variable {X : Cx} {pos : Pos} {a b c d : Expr} {ta tb tc td : TE}
/-- isinstance(x, T), T a built-in type -/
theorem call_isi : CallR X (.builtin "isinstance") (fun xs H Q => ∃ x n t b, xs = [x, .ty n] ∧ TyOf X.K H x t ∧ PySem.W.kitOne X.K t (.type n) = some b ∧ Q (.bl b) H) := by
  intro pins s σ H xs us Q I r h
  obtain ⟨x, n, t, b, rfl, ty, e, q⟩ := h
  obtain ⟨u, w', rfl, ru, rw'⟩ := vals2 r
  obtain rfl : w' = Value.type n := rw'
  exact isinst_ok I ru ty e fun tk => ⟨.bl b, H, I.tok tk, rfl, q⟩
end
/-! ### what isinstance tells of built-in types -/
section
open PySem.W
variable {K : Frag}
theorem kit_same {t : String} : kitOne K (.type t) (.type t) = some true := by
  unfold kitOne
  rw [if_pos (by simp)]
theorem kit_of {t c : String} {b : Bool} (h1 : (Value.type t == Value.type c) = false) (h2 : kitMeta c = true) (h3 : (fastBuiltinMro t).map (·.contains (Value.type c)) = some b) : kitOne K (.type t) (.type c) = some b := by
  unfold kitOne
  rw [if_neg (by rw [h1]; decide)]
  unfold kitCls
  show (if kitMeta c = true then subIn K (.type t) (.type c) else none) = some b
  rw [if_pos h2]
  exact h3
theorem kit_int_bool : kitOne K (.type "int") (.type "bool") = some false := kit_of (by decide +kernel) (by decide +kernel) (by decide +kernel)
theorem kit_bool_int : kitOne K (.type "bool") (.type "int") = some true := kit_of (by decide +kernel) (by decide +kernel) (by decide +kernel)
end
/-! ### tests -/
theorem iteD {c A B : Prop} [Decidable c] (h1 : c → A) (h2 : ¬ c → B) : if decide c = true then A else B := by
  by_cases h : c
  · rw [if_pos (decide_eq_true h)]; exact h1 h
  · rw [if_neg (by rw [decide_eq_false h]; decide)]; exact h2 h
theorem iteDn {c A B : Prop} [Decidable c] (h1 : ¬ c → A) (h2 : c → B) : if (!decide c) = true then A else B := by
  by_cases h : c
  · rw [if_neg (by rw [decide_eq_true h]; decide)]; exact h2 h
  · rw [if_pos (by rw [decide_eq_false h]; rfl)]; exact h1 h
theorem iteE {A B : Prop} {i j : Int} (h1 : i = j → A) (h2 : i ≠ j → B) : if decide (V.int i = V.int j) = true then A else B := iteD (fun h => h1 (V.int.inj h)) fun h => h2 fun e => h (congrArg V.int e)
theorem iteNE {A B : Prop} {i j : Int} (h1 : i ≠ j → A) (h2 : i = j → B) : if (!decide (V.int i = V.int j)) = true then A else B := iteDn (fun h => h1 fun e => h (congrArg V.int e)) fun h => h2 (V.int.inj h)
/-! ### heaps -/
theorem Same.put {H H1 : Hp} {l : Addr} {o : HO} (s : Same H H1) (n : H l = none) : Same H (upd H1 l o) := fun b u e => by
  rw [upd_ne (ne_of_none e n)]; exact s b u e
theorem Same.new {H : Hp} {l : Addr} {o : HO} (n : H l = none) : Same H (upd H l o) := (Same.refl H).put n
end L2
/-! ### a list comprehension of one clause -/
namespace L2
open PySem PySem.Spec PyProof.Rows
/-- the loop of a comprehension, a turn at a time, whatever its target is -/
theorem comp_loop {prog : Program} {w : World} {A : Around} {R : Result → Shared → Prop} {s : Shared} {elt target iter : Expr} {ifs : List Expr} {scope : Scope} {pos : Pos} {it acc : Value} {env : Env} (I : Nat → Shared → Prop)
    (turn : ∀ n s, I n s → wpAny (model prog w) A (pyNext it) (fun r s₁ => match r with
      | none => R (.ok .next) s₁
      | some v => wpAny (model prog w) A (letOwnedTupleGo target it v) (fun _ s₁' => wpAny (model prog w) A (assign target env v) (fun _ s₂ =>
          wpAny (model prog w) A (forIn ifs true fun c r => if r = true then do let ok ← isTrue c env (eval c env); pure (ForInStep.yield ok) else pure (ForInStep.yield r)) (fun ok s₃ =>
            if ok = true then wpAny (model prog w) A (eval elt env) (fun x s₄ =>
              wpAny (model prog w) A (call (.builtin "list.append") [acc, x]) (fun _ s₅ => ∃ m, m < n ∧ I m s₅) (notedBy (model prog w) A env fun e s' => R (.error e) s') s₄) (notedBy (model prog w) A env fun e s' => R (.error e) s') s₃
            else ∃ m, m < n ∧ I m s₃) (notedBy (model prog w) A env fun e s' => R (.error e) s') s₂) (notedBy (model prog w) A env fun e s' => R (.error e) s') s₁') (notedBy (model prog w) A env fun e s' => R (.error e) s') s₁) (notedBy (model prog w) A env fun e s' => R (.error e) s') s)
    (n : Nat) (h : I n s) :
    codeAny (model prog w) A (.compLoop (.ListComp elt [⟨target, iter, ifs, 0⟩] scope pos) 0 it acc env) R s := by
  refine codeAny_loop rfl I (fun n s hI => ?_) n h
  show wpAny _ A ((compTurn (.ListComp elt [⟨target, iter, ifs, 0⟩] scope pos) 0 it acc env).onRaise (fun x => do noteFrame x env; theTreesLotGoes x)) _ _ s
  refine wpAny_noted ?_
  rw [compTurn_list]
  refine wpAny_bind (wpAny_standAt (wpAny_bind (wpAny_mono (turn n s hI) (fun r s₁ h₁ => ?_) fun _ _ h' => h')))
  cases r with
  | none => exact wpAny_pure h₁
  | some v =>
    refine wpAny_bind (wpAny_mono h₁ (fun _ s₁' h₁' => wpAny_bind (wpAny_mono h₁' (fun _ s₂ h₂ => wpAny_bind (wpAny_mono h₂ (fun ok s₃ h₃ => ?_) fun _ _ h' => h')) fun _ _ h' => h')) fun _ _ h' => h')
    cases ok with
    | false => exact wpAny_pure ⟨rfl, h₃⟩
    | true =>
      exact wpAny_bind (wpAny_bind (wpAny_mono h₃ (fun x s₄ h₄ => wpAny_bind (wpAny_mono h₄ (fun _ s₅ h₅ => wpAny_pure (wpAny_pure ⟨rfl, h₅⟩)) fun _ _ h' => h')) fun _ _ h' => h'))
/-- the cells that a comprehension sees -/
def clOf (env : Env) : List (Str × NameKind) → List (Str × Addr) → List (Str × Addr)
  | [], cs => cs
  | (n, k) :: r, cs => clOf env r (if k = .free then (n, (env.cells.lookup n).getD 0) :: cs else cs)
theorem clOf_run {env : Env} : ∀ (ns : List (Str × NameKind)) (cs : List (Str × Addr)), (∀ y ∈ ns, y.2 = .free → ∃ c, env.cells.lookup y.1 = some c) →
    (forIn ns cs fun (x : Str × NameKind) (r : List (Str × Addr)) => (if (x.2 == .free) = true then do let c ← cellOf env x.1; pure (ForInStep.yield ((x.1, c) :: r)) else pure (ForInStep.yield r) : Sem (ForInStep (List (Str × Addr))))) = (pure (clOf env ns cs) : Sem _)
  | [], cs, _ => rfl
  | (n, k) :: r, cs, h => by
    have hr := fun y hy => h y (List.mem_cons_of_mem _ hy)
    by_cases hk : k = .free
    · obtain ⟨c, hc⟩ := h (n, k) List.mem_cons_self hk
      subst hk
      rw [List.forIn_cons]
      have e : cellOf env n = pure c := by unfold cellOf; rw [hc]
      simp only [beq_self_eq_true, if_true, e, pure_bind]
      rw [clOf_run r _ hr]
      show _ = pure (clOf env r (if NameKind.free = NameKind.free then (n, (env.cells.lookup n).getD 0) :: cs else cs))
      rw [if_pos rfl, show env.cells.lookup n = some c from hc]
      rfl
    · have hb : (k == NameKind.free) = false := by simpa using hk
      rw [List.forIn_cons]
      simp only [hb, Bool.false_eq_true, if_false, pure_bind]
      rw [clOf_run r _ hr]
      show _ = pure (clOf env r (if k = NameKind.free then (n, (env.cells.lookup n).getD 0) :: cs else cs))
      rw [if_neg hk]
theorem closure_is {env : Env} {scope : Scope} (h : ∀ y ∈ scope.names, y.2 = .free → ∃ c, env.cells.lookup y.1 = some c) : closureFor scope env = pure (clOf env scope.names []) := by
  unfold closureFor
  have e := clOf_run scope.names [] h
  simp only [bind_pure] at e ⊢
  exact e
theorem clOf_lookup {env : Env} {x : Str} {c : Addr} : ∀ (ns : List (Str × NameKind)) (cs : List (Str × Addr)), (∀ y ∈ ns, y.2 = .free → ∃ c, env.cells.lookup y.1 = some c) → (∀ x c, cs.lookup x = some c → env.cells.lookup x = some c) →
    (clOf env ns cs).lookup x = some c → env.cells.lookup x = some c
  | [], cs, _, hc, e => hc x c e
  | (n, k) :: r, cs, h, hc, e => by
    unfold clOf at e
    refine clOf_lookup r _ (fun y hy => h y (List.mem_cons_of_mem _ hy)) (fun x' c' e' => ?_) e
    by_cases hk : k = .free
    · rw [if_pos hk] at e'
      obtain ⟨c0, h0⟩ := h (n, k) List.mem_cons_self hk
      rw [h0] at e'
      rw [List.lookup_cons] at e'
      by_cases q : x' == n
      · rw [q] at e'
        cases e'
        rw [beq_iff_eq.mp q]
        exact h0
      · have q' : (x' == n) = false := by simpa using q
        rw [q'] at e'
        exact hc x' c' e'
    · rw [if_neg hk] at e'
      exact hc x' c' e'
theorem clOf_has0 {env : Env} {x : Str} : ∀ (ns : List (Str × NameKind)) (cs : List (Str × Addr)), (∃ c, cs.lookup x = some c) → ∃ c, (clOf env ns cs).lookup x = some c
  | [], cs, h => h
  | (n, k) :: r, cs, h => by
    unfold clOf
    refine clOf_has0 r _ ?_
    by_cases hk : k = .free
    · rw [if_pos hk, List.lookup_cons]
      by_cases q : x == n
      · rw [q]; exact ⟨_, rfl⟩
      · have q' : (x == n) = false := by simpa using q
        rw [q']; exact h
    · rw [if_neg hk]; exact h
theorem clOf_has {env : Env} {x : Str} : ∀ (ns : List (Str × NameKind)) (cs : List (Str × Addr)), (x, NameKind.free) ∈ ns → ∃ c, (clOf env ns cs).lookup x = some c
  | (n, k) :: r, cs, h => by
    unfold clOf
    rcases List.mem_cons.mp h with e | e
    · cases e
      rw [if_pos rfl]
      exact clOf_has0 r _ ⟨_, by rw [List.lookup_cons, beq_self_eq_true]⟩
    · exact clOf_has r _ e

/-- the context of a comprehension's block -/
def Cx.comp (X : Cx) (scope : Scope) (C : Addr) (N : List Str) (s₀ : Shared) (H₀ : Hp) (ex : List Addr) (E : Value → Shared → Prop) : Cx where
  prog := X.prog
  w := X.w
  K := X.K
  mg := X.mg
  base := X.base
  A := X.A
  N := N
  s₀ := s₀
  H₀ := H₀
  env := compEnvC scope (clOf X.env scope.names []) C X.env
  outer := X.stack
  stack := X.stack
  ex := ex
  fn := fun _ => false
  calm := X.calm
  pn := []
  xe := E
/-- the tests of a clause -/
def PIfs (X : Cx) (ifs : List Expr) (t : TT) : Prop :=
  ∀ (pins : List (Addr × Obj)) (s : Shared) (σ : St) (H : Hp) (Q : Bool → Hp → Prop), Inv X pins σ H s → t σ H Q →
    wpAny (model X.prog X.w) X.A (forIn ifs true fun c r => if r = true then do let ok ← isTrue c X.env (eval c X.env); pure (ForInStep.yield ok) else pure (ForInStep.yield r)) (TP X pins σ Q) X.xe s
def tYes : TT := fun _ H Q => Q true H
theorem pifs_nil {X : Cx} : PIfs X [] tYes := fun _ _ _ H _ I h => wpAny_tests_nil ⟨H, I, h⟩
theorem pifs_one {X : Cx} {c : Expr} {t : TT} (h : PT X c t) : PIfs X [c] t := fun pins s σ H Q I q => wpAny_tests_one (h pins s σ H Q I q)
/-- what the block sees of the frame: its own names unset, then the frame's slots j -/
def capt (own : Nat) (js : List Nat) (σ : St) : St := List.replicate own none ++ js.map fun j => (σ[j]?).getD none
/-- the block from its start on: W the word by the turn and a measure -/
def CompW (J : It) (own : Nat) (js : List Nat) (g : TG) (ti : TT) (te : TE) (σ : St) (H1 : Hp) (acc : Addr) (Q : VK) : Prop :=
  ∃ W : Nat → Nat → Hp → Prop, (∃ m, W 0 m (upd H1 acc (.lst []))) ∧ ∀ i m H2, W i m H2 →
    (J.stop i H2 ∧ Q (.ref acc) H2) ∨ (J.go i H2 ∧ ∀ x H3, J.yld i H2 x H3 → g x (capt own js σ) H3 fun σ4 H4 => ti σ4 H4 fun b H5 =>
      if b = true then te σ4 H5 fun y H6 => rAppend (.ref acc) [y] H6 fun _ H7 => ∃ m', m' < m ∧ W (i + 1) m' H7 else ∃ m', m' < m ∧ W (i + 1) m' H5)
def tComp (own : Nat) (js : List Nat) (wi : TI) (g : TG) (ti : TT) (te : TE) : TE := fun σ H Q => wi σ H fun J H1 => ∀ acc, H1 acc = none → CompW J own js g ti te σ H1 acc Q
end L2
namespace L2
open PySem PySem.Spec PyProof.Rows
theorem thnF {α : Type} {t : Sem α} {Q Q' : α → Shared → Prop} {M : Model} {A : Around} {E : Value → Shared → Prop} {s : Shared} (h : wpAny M A t Q (fun _ _ => False) s) (hQ : ∀ a s, Q a s → Q' a s) : wpAny M A t Q' E s := wpAny_mono h hQ fun _ _ f => f.elim
theorem relabel_kind {scope : Scope} {env : Env} {x : Str} : ∀ {names : List (Str × NameKind)}, ((names.map fun (n, k) => if (k == NameKind.free && env.scope.kind == .function && env.kindOf n == some .cell) then (n, NameKind.cell) else (n, k)).lookup x = some .cell ∨
    (names.map fun (n, k) => if (k == NameKind.free && env.scope.kind == .function && env.kindOf n == some .cell) then (n, NameKind.cell) else (n, k)).lookup x = some .free) → (∀ y ∈ names, y.2 ≠ .cell) → (x, NameKind.free) ∈ names
  | [], h, _ => by simp at h
  | (n, k) :: r, h, hc => by
    have hr : ∀ y ∈ r, y.2 ≠ .cell := fun y hy => hc y (List.mem_cons_of_mem _ hy)
    have h0 : k ≠ .cell := hc (n, k) List.mem_cons_self
    rw [List.map_cons, List.lookup_cons] at h
    by_cases hb : (k == NameKind.free && env.scope.kind == .function && env.kindOf n == some .cell) = true
    · rw [if_pos hb] at h
      dsimp only at h
      by_cases q : x == n
      · have hk : k = .free := by simp only [Bool.and_eq_true, beq_iff_eq] at hb; exact hb.1.1
        rw [beq_iff_eq.mp q, hk]
        exact List.mem_cons_self
      · have q' : (x == n) = false := by simpa using q
        rw [q'] at h
        exact List.mem_cons_of_mem _ (relabel_kind (scope := scope) h hr)
    · rw [if_neg hb] at h
      dsimp only at h
      by_cases q : x == n
      · rw [q] at h
        dsimp only at h
        have hk : k = .free := by
          rcases h with h | h
          · exact absurd (Option.some.inj h) h0
          · exact Option.some.inj h
        rw [beq_iff_eq.mp q, hk]
        exact List.mem_cons_self
      · have q' : (x == n) = false := by simpa using q
        rw [q'] at h
        exact List.mem_cons_of_mem _ (relabel_kind (scope := scope) h hr)
/-- the target stores into the block's own slots alone -/
def OwnG (own : Nat) (g : TG) : Prop := ∀ v σ H (Q : St → Hp → Prop), g v σ H Q → g v σ H fun σ' H' => Q σ' H' ∧ σ'.length = σ.length ∧ ∀ i, own ≤ i → σ'[i]? = σ[i]?
theorem ownG_name {i own : Nat} (h : i < own) : OwnG own (gName i) := fun v σ H Q q => ⟨q, List.length_set .., fun j hj => by rw [List.getElem?_set_ne (by omega)]⟩
theorem capt_length (own : Nat) (js : List Nat) (σ : St) : (capt own js σ).length = own + js.length := by simp [capt]
theorem capt_some {own : Nat} {js : List Nat} {σ : St} {i : Nat} {v : V} (h : (capt own js σ)[i]? = some (some v)) : own ≤ i ∧ ∃ j, js[i - own]? = some j ∧ σ[j]? = some (some v) := by
  unfold capt at h
  by_cases hi : i < own
  · rw [List.getElem?_append_left (by simpa using hi), List.getElem?_replicate, if_pos hi] at h
    cases h
  · rw [List.getElem?_append_right (by simpa using hi), List.length_replicate, List.getElem?_map] at h
    refine ⟨by omega, ?_⟩
    cases e : js[i - own]? with
    | none => rw [e] at h; cases h
    | some j =>
      rw [e] at h
      refine ⟨j, rfl, ?_⟩
      have h' : (σ[j]?).getD none = some v := Option.some.inj h
      cases e2 : σ[j]? with
      | none => rw [e2] at h'; cases h'
      | some o => rw [e2] at h'; exact congrArg some h'
theorem comp_core {X : Cx} {elt tg iter : Expr} {ifs : List Expr} {scope : Scope} {pos ps : Pos} {N : List Str} {own : Nat} {js : List Nat} {wi : TI} {g : TG} {ti : TT} {te : TE} (hc : X.calm = true)
    (hcell : ∀ y ∈ scope.names, y.2 ≠ .cell) (hkind : scope.kind = .function) (hnames : ∀ y ∈ scope.names, y.2 = .local → scope.names.lookup y.1 = some .local)
    (hfree : ∀ y ∈ scope.names, y.2 = .free → X.env.kindOf y.1 = some .cell ∨ X.env.kindOf y.1 = some .free) (hlen : N.length = own + js.length)
    (hcap : ∀ (i j : Nat) (x : Str), js[i]? = some j → N[own + i]? = some x → X.N[j]? = some x ∧ (x, NameKind.free) ∈ scope.names ∧ (X.env.kindOf x = some .cell ∨ X.env.kindOf x = some .free) ∧ ((relabel scope X.env).names.lookup x = some .cell ∨ (relabel scope X.env).names.lookup x = some .free))
    (hi : PI X tg iter wi) (hg : ∀ C s₀ H₀ ex, PG (X.comp scope C N s₀ H₀ ex fun _ _ => False) tg g) (ho : OwnG own g) (ht : ∀ C s₀ H₀ ex, PIfs (X.comp scope C N s₀ H₀ ex fun _ _ => False) ifs ti) (he : ∀ C s₀ H₀ ex, PE (X.comp scope C N s₀ H₀ ex fun _ _ => False) elt te)
    {pins : List (Addr × Obj)} {s : Shared} {σ : St} {H : Hp} {Q : VK} {use : Option (Value → Sem Unit)} {RQ : Value → Shared → Prop} (I : Inv X pins σ H s) (h : tComp own js wi g ti te σ H Q)
    (fin : ∀ (acc C : Addr) (H3 : Hp) (s4 : Shared) (m : Str → Option Value), Inv X pins σ H3 s4 → s4.heap.Ns C m → H3 C = none → C ≠ X.env.locals → C ∉ X.fs → X.s₀.heap.objs.size ≤ C → (∀ x c, X.env.cells.lookup x = some c → c ≠ C) → (∀ p ∈ X.pn ++ pins, p.1 ≠ C) →
      Q (.ref acc) H3 → compPost (model X.prog X.w) X.A X.xe use RQ (.ref acc) C (.ok .next) s4)
    (hs : ∀ x, foldedSetIterable iter X.env x = pure x := by intro _; rfl) :
    wpAny (model X.prog X.w) X.A (comprehension (.ListComp elt [⟨tg, iter, ifs, 0⟩] scope pos) scope X.env ps (newList []) false (eval iter X.env) use) RQ X.xe s := by
  have hcl : ∀ y ∈ scope.names, y.2 = .free → ∃ c, X.env.cells.lookup y.1 = some c := fun y hy hf => I.ok.has y.1 (hfree y hy hf)
  refine wpAny_comprehension_free (use := use) rfl hs (closure_is hcl) hkind hnames (thn (hi pins s σ H _ I h) fun v s1 h1 => thn h1 fun itv s2 h2 => ?_)
  obtain ⟨it, fp, tn, J, H2, e, I2, T, st2, f2, q⟩ := h2
  subst e
  have nf : H2 s2.heap.objs.size = none := I2.hok.fresh (Nat.le_refl _)
  obtain ⟨W, ⟨m0, w0⟩, turn⟩ := q s2.heap.objs.size nf
  refine wpAny_newObj_type (wpAny_newFunctionEnv hcell (by intro y hy; simp at hy) (fun h₁ hns₁ hsb₁ => ?_) hkind)
  dsimp only at hns₁ hsb₁ ⊢
  generalize hP2 : s2.heap.push { cls := .type "list", dict := none, data := .seq ([] : List Value).toArray } = P2 at hns₁ hsb₁ ⊢
  have hC : P2.objs.size = s2.heap.objs.size + 1 := by rw [← hP2, Heap.size_push]
  have hC1 : s2.heap.objs.size < P2.objs.size := by rw [hC]; exact Nat.lt_succ_self _
  have kp : ∀ b o, s2.heap.get? b = some o → h₁.get? b = some o := fun b o e => hsb₁.extBut b o (Nat.ne_of_lt (Nat.lt_trans (Heap.lt_size e) hC1)) (Heap.get?_push_of_some _ (hP2 ▸ Heap.get?_push_of_some _ e))
  have hacc : h₁.get? s2.heap.objs.size = some { cls := .type "list", dict := none, data := .seq ([] : List Value).toArray } := hsb₁.extBut _ _ (Nat.ne_of_lt hC1) (Heap.get?_push_of_some _ (hP2 ▸ Heap.get?_push_size _ rfl))
  have lkc : ∀ x c, (clOf X.env scope.names []).lookup x = some c → X.env.cells.lookup x = some c := fun x c e => clOf_lookup scope.names [] hcl (fun _ _ z => by simp at z) e
  have cne : ∀ x c, (clOf X.env scope.names []).lookup x = some c → c < s2.heap.objs.size ∧ H2 c = none := fun x c e => by
    obtain ⟨v, o, ho, hd⟩ := I2.cell x c (lkc x c e)
    exact ⟨Heap.lt_size ho, I2.freeC x c (lkc x c e)⟩
  have fpl : ∀ b ∈ fp, b < s2.heap.objs.size := fun b hb => by
    obtain ⟨o, e, _⟩ := T.obj 0 _ st2 b hb
    exact Heap.lt_size e
  -- the block's invariant, as it starts
  have hX : (X.comp scope P2.objs.size N s2 H2 fp fun _ _ => False).Ok := {
    mod := I.ok.mod
    kind := hkind
    glob := I.ok.glob
    blt := I.ok.blt
    above := Nat.le_of_lt hC1
    inj := fun x y c a b => I.ok.inj x y c (lkc x c a) (lkc y c b)
    has := fun x hx => clOf_has scope.names [] (relabel_kind (scope := scope) (env := X.env) hx hcell)
    cab := fun x c a _ => by cases (show false = true from a)
    hd := I.ok.hd
    frames := I.ok.frames
    stk := .inl rfl
    exf := fun b hb => ⟨Nat.ne_of_lt (Nat.lt_trans (fpl b hb) hC1), fun x c a => (f2 b hb).2.2.2.2.1 x c (lkc x c a)⟩
    bs := I2.bs
    bsz := Nat.le_trans I.ok.bsz I2.sz
    noex := fun b o e hb => by
      rcases (f2 b hb).2.2.2.1 with z | z
      · exact I.ok.noex b o e z
      · exact absurd (Nat.lt_of_lt_of_le (Nat.lt_of_lt_of_le (Heap.lt_size e) I.ok.bsz) z) (Nat.lt_irrefl _)
    exfs := fun b hb z => by
      rcases List.mem_cons.mp (I2.stkSub b z) with z | z
      · exact (f2 b hb).2.1 z
      · exact (f2 b hb).2.2.1 z
    funs := I2.stack
    frf := I2.stkFree }
  have I3 : ∀ tk, Inv (X.comp scope P2.objs.size N s2 H2 fp fun _ _ => False) [] (capt own js σ) (upd H2 s2.heap.objs.size (.lst [])) { s2 with heap := h₁, toks := tk } := fun tk => {
    ok := hX
    os := rfl
    bare := I2.bare
    base := Un.laid kp (Nat.le_refl _) nf
    loc := ⟨_, hns₁, fun i x v a b c => by
      obtain ⟨hio, j, hj, hv⟩ := capt_some b
      obtain ⟨h3, h4, h5, h6⟩ := hcap (i - own) j x hj (by rw [show own + (i - own) = i by omega]; exact a)
      obtain ⟨m, hn, hl⟩ := I2.loc
      obtain ⟨u, ru, lk⟩ := hl j x v h3 hv (.inr h5)
      refine ⟨u, ru, .inr ⟨h6, ?_⟩⟩
      rcases lk with ⟨z, _⟩ | ⟨_, c0, z1, z2⟩
      · rcases h5 with h5 | h5 <;> (rw [h5] at z; cases z)
      · obtain ⟨c1, hc1⟩ := clOf_has (env := X.env) scope.names [] h4
        have := lkc x c1 hc1
        rw [z1] at this
        cases this
        obtain ⟨o, ho, hd⟩ := z2
        exact ⟨c0, hc1, o, kp _ _ ho, hd⟩⟩
    cell := fun x c a => by
      obtain ⟨v, o, ho, hd⟩ := I2.cell x c (lkc x c a)
      exact ⟨v, o, kp _ _ ho, hd⟩
    free := by
      show upd H2 _ _ P2.objs.size = none
      rw [upd_ne (Nat.ne_of_gt hC1)]
      exact I2.hok.fresh (Nat.le_of_lt hC1)
    freeC := fun x c a => by
      rw [upd_ne (Nat.ne_of_lt (cne x c a).1)]
      exact (cne x c a).2
    pin := fun p hp => absurd (show p ∈ ([] : List (Addr × Obj)) from hp) (by simp)
    hok := I2.hok.laid kp (Nat.le_refl _) ⟨Nat.zero_le _, [], 0, .nil, hacc⟩
    len := by rw [capt_length]; exact hlen.symm }
  have fr0 : ∀ b ∈ fp, upd H2 s2.heap.objs.size (.lst []) b = none := fun b hb => by
    rw [upd_ne (Nat.ne_of_lt (fpl b hb))]
    exact (f2 b hb).1
  have st3 : tn 0 h₁ := T.keep 0 _ _ st2 fun b _ o e => kp b o e
  have stat : ∀ {H' : Hp}, (∀ b ∈ fp, H' b = none) → ∀ b ∈ fp, FpOk (X.comp scope P2.objs.size N s2 H2 fp fun _ _ => False) [] H' b := fun hn b hb =>
    ⟨hn b hb, (hX.exf b hb).1, hX.exfs b hb, .inl hb, fun x c a => (hX.exf b hb).2 x c a, fun p hp => absurd (show p ∈ ([] : List (Addr × Obj)) from hp) (by simp)⟩
  have loop : ∀ s₃ : Shared, s₃ = { s2 with heap := h₁, toks := s2.toks + ([] : List (Str × Value)).length } →
      codeAny (model X.prog X.w) X.A (.compLoop (.ListComp elt [⟨tg, iter, ifs, 0⟩] scope pos) 0 (.ref it) (.ref s2.heap.objs.size) (compEnvC scope (clOf X.env scope.names []) P2.objs.size X.env))
        (compPost (model X.prog X.w) X.A X.xe use RQ (.ref s2.heap.objs.size) P2.objs.size) s₃ := by
    rintro s₃ rfl
    refine comp_loop (fun n s' => ∃ i H', Inv (X.comp scope P2.objs.size N s2 H2 fp fun _ _ => False) [] (capt own js σ) H' s' ∧ tn i s'.heap ∧ (∀ b ∈ fp, H' b = none) ∧ W i n H') ?_ m0 ⟨0, _, I3 _, st3, fr0, w0⟩
    rintro n s3 ⟨i, H3, J3, t3, fr3, w3⟩
    rcases turn i n H3 w3 with ⟨stop, qd⟩ | ⟨go, step⟩
    · refine thnF (T.done (X.comp scope P2.objs.size N s2 H2 fp fun _ _ => False) rfl rfl rfl hc i [] s3 _ H3 _ J3 (stat fr3) t3 stop) fun r s4 ⟨hr, J4⟩ => ?_
      subst hr
      obtain ⟨m, hn, _⟩ := J4.loc
      have B : Un (frs X.stack) fp H2 H3 s2.heap s4.heap := J4.base
      have I5 : Inv X pins σ H3 s4 := I2.call' J4.os B J4.hok J4.bare fun b hb => by
        obtain ⟨a1, a2, a3, a4, a5, a6⟩ := f2 b hb
        exact ⟨a4, a2, a5, a6⟩
      have hp := I2.fpOk (H' := H3) (b := P2.objs.size) (Nat.le_of_lt hC1) J4.free
      obtain ⟨a1, a2, a3, a4, a5, a6⟩ := hp
      exact fin s2.heap.objs.size P2.objs.size H3 s4 m I5 hn a1 a2 a3 (Nat.le_trans I2.sz (Nat.le_of_lt hC1)) a5 a6 qd
    · refine thnF (T.item (X.comp scope P2.objs.size N s2 H2 fp fun _ _ => False) rfl rfl rfl hc i [] s3 _ H3 _ J3 (stat fr3) t3 go) fun r s4 ⟨u, hr, h4⟩ => ?_
      subst hr
      refine thnF h4 fun _ s5 ⟨x, H5, J5, r5, y5, t5, fr5⟩ => ?_
      have J5' := J5.pinned (stat fr5) (T.obj _ _ t5)
      refine thnF (hg _ _ _ _ _ s5 _ H5 x u _ J5' r5 (ho _ _ _ _ (step x H5 y5))) fun _ s6 ⟨σ6, H6, J6, q6, hl6, ho6⟩ => ?_
      have again : ∀ {s7 : Shared} {H7 : Hp}, Inv (X.comp scope P2.objs.size N s2 H2 fp fun _ _ => False) ([] ++ pinsAt fp s5.heap) σ6 H7 s7 → (∃ m', m' < n ∧ W (i + 1) m' H7) →
          ∃ m, m < n ∧ ∃ i H', Inv (X.comp scope P2.objs.size N s2 H2 fp fun _ _ => False) [] (capt own js σ) H' s7 ∧ tn i s7.heap ∧ (∀ b ∈ fp, H' b = none) ∧ W i m H' := fun {s7 H7} J7 z => by
        obtain ⟨m', hm, w7⟩ := z
        refine ⟨m', hm, i + 1, H7, J7.unpinned.weak (by rw [hl6]) (fun k v z => ?_), T.keep _ _ _ t5 fun b hb o e => (J7.pin (b, o) (List.mem_append_right _ (List.mem_append_right _ (mem_pinsAt hb e)))).1, fun b hb => ?_, w7⟩
        · rw [ho6 k (capt_some z).1]
          exact z
        · obtain ⟨o, e, d⟩ := T.obj _ _ t5 b hb
          exact (J7.pin (b, o) (List.mem_append_right _ (List.mem_append_right _ (mem_pinsAt hb e)))).2.1
      refine thnF (ht _ _ _ _ _ s6 σ6 H6 _ J6 q6) fun ok s7 ⟨H7, J7, q7⟩ => ?_
      cases ok with
      | false => exact again J7 q7
      | true =>
        refine thnF (he _ _ _ _ _ s7 σ6 H7 _ J7 q7) fun y s8 ⟨yv, H8, J8, r8, q8⟩ => ?_
        exact thnF (mt_append _ s8 σ6 H8 (.ref s2.heap.objs.size) [yv] (.ref s2.heap.objs.size) [y] _ J8 rfl (.cons r8 .nil) q8) fun _ s9 ⟨_, H9, J9, _, q9⟩ => again J9 q9
  exact codeAny_compStart_list (loop _ rfl) (T.self X.A 0 _ _ _ st3 (loop _ rfl))

/-- [elt for tg in iter if ..] -/
theorem pe_comp {X : Cx} {elt tg iter : Expr} {ifs : List Expr} {scope : Scope} {pos : Pos} {N : List Str} {own : Nat} {js : List Nat} {wi : TI} {g : TG} {ti : TT} {te : TE} (hc : X.calm = true)
    (hcell : ∀ y ∈ scope.names, y.2 ≠ .cell) (hkind : scope.kind = .function) (hnames : ∀ y ∈ scope.names, y.2 = .local → scope.names.lookup y.1 = some .local)
    (hfree : ∀ y ∈ scope.names, y.2 = .free → X.env.kindOf y.1 = some .cell ∨ X.env.kindOf y.1 = some .free) (hlen : N.length = own + js.length)
    (hcap : ∀ (i j : Nat) (x : Str), js[i]? = some j → N[own + i]? = some x → X.N[j]? = some x ∧ (x, NameKind.free) ∈ scope.names ∧ (X.env.kindOf x = some .cell ∨ X.env.kindOf x = some .free) ∧ ((relabel scope X.env).names.lookup x = some .cell ∨ (relabel scope X.env).names.lookup x = some .free))
    (hi : PI X tg iter wi) (hg : ∀ C s₀ H₀ ex, PG (X.comp scope C N s₀ H₀ ex fun _ _ => False) tg g) (ho : OwnG own g) (ht : ∀ C s₀ H₀ ex, PIfs (X.comp scope C N s₀ H₀ ex fun _ _ => False) ifs ti) (he : ∀ C s₀ H₀ ex, PE (X.comp scope C N s₀ H₀ ex fun _ _ => False) elt te)
    (hs : ∀ x, foldedSetIterable iter X.env x = pure x := by intro _; rfl) : PE X (.ListComp elt [⟨tg, iter, ifs, 0⟩] scope pos) (tComp own js wi g ti te) := by
  intro pins s σ H Q I h
  rw [eval_ListComp]
  refine comp_core hc hcell hkind hnames hfree hlen hcap hi hg ho ht he I h (use := none) (fun acc C H3 s4 m I5 hn c1 c2 c3 c4 c5 c6 q => ?_) hs
  refine ⟨m, hn, fun h' sb => ⟨.ref acc, H3, ?_, rfl, q⟩⟩
  exact I5.turned (t' := s4.toks) (it := C) (fun b o hb e => (sb.2 b hb).trans e) c1 c2 (.inr c4) c5 c6
end L2
/-! ### the comprehension's rules with one check over the written text -/
namespace L2
open PySem PySem.Spec PyProof.Rows
def compOk (XN : List Str) (sc scope : Scope) (own : Nat) (js : List Nat) (N : List Str) : Bool :=
  (scope.names.all fun y => decide (y.2 ≠ .cell) && (decide (y.2 ≠ .local) || decide (scope.names.lookup y.1 = some .local)) && (decide (y.2 ≠ .free) || decide (sc.names.lookup y.1 = some .cell) || decide (sc.names.lookup y.1 = some .free))) &&
    decide (scope.kind = .function) && decide (N.length = own + js.length) &&
    (List.range js.length).all fun i => match js[i]?, N[own + i]? with
      | some j, some x => decide (XN[j]? = some x) && decide (scope.names.lookup x = some .free) && (decide (sc.names.lookup x = some .cell) || decide (sc.names.lookup x = some .free))
      | _, _ => false
theorem lookup_relabel_free {env : Env} : ∀ {names : List (Str × NameKind)} {x : Str}, names.lookup x = some .free →
    (names.map fun (n, k) => if (k == NameKind.free && env.scope.kind == .function && env.kindOf n == some .cell) then (n, NameKind.cell) else (n, k)).lookup x = some .cell ∨
    (names.map fun (n, k) => if (k == NameKind.free && env.scope.kind == .function && env.kindOf n == some .cell) then (n, NameKind.cell) else (n, k)).lookup x = some .free
  | [], _, h => by simp at h
  | (n, k) :: r, x, h => by
    have ih := @lookup_relabel_free env r x
    rw [List.map_cons, List.lookup_cons]
    rw [List.lookup_cons] at h
    by_cases hc : (k == NameKind.free && env.scope.kind == .function && env.kindOf n == some .cell) = true
    · rw [if_pos hc]
      dsimp only
      cases hx : x == n with
      | true => exact .inl rfl
      | false =>
        rw [hx] at h
        exact ih h
    · rw [if_neg hc]
      dsimp only
      cases hx : x == n with
      | true =>
        rw [hx] at h
        exact .inr h
      | false =>
        rw [hx] at h
        exact ih h
structure CompOk (XN : List Str) (sc scope : Scope) (own : Nat) (js : List Nat) (N : List Str) : Prop where
  cell : ∀ y ∈ scope.names, y.2 ≠ .cell
  names : ∀ y ∈ scope.names, y.2 = .local → scope.names.lookup y.1 = some .local
  free : ∀ y ∈ scope.names, y.2 = .free → sc.names.lookup y.1 = some .cell ∨ sc.names.lookup y.1 = some .free
  kind : scope.kind = .function
  len : N.length = own + js.length
  cap : ∀ (i j : Nat) (x : Str), js[i]? = some j → N[own + i]? = some x → XN[j]? = some x ∧ scope.names.lookup x = some .free ∧ (sc.names.lookup x = some .cell ∨ sc.names.lookup x = some .free)
theorem compOk_of {XN : List Str} {sc scope : Scope} {own : Nat} {js : List Nat} {N : List Str} (h : compOk XN sc scope own js N = true) : CompOk XN sc scope own js N := by
  unfold compOk at h
  rw [Bool.and_eq_true, Bool.and_eq_true, Bool.and_eq_true] at h
  obtain ⟨⟨⟨h1, h2⟩, h3⟩, h4⟩ := h
  rw [List.all_eq_true] at h1 h4
  refine ⟨fun y hy => ?_, fun y hy e => ?_, fun y hy e => ?_, of_decide_eq_true h2, of_decide_eq_true h3, fun i j x a b => ?_⟩
  · have := h1 y hy
    rw [Bool.and_eq_true, Bool.and_eq_true] at this
    exact of_decide_eq_true this.1.1
  · have := h1 y hy
    rw [Bool.and_eq_true, Bool.and_eq_true, Bool.or_eq_true] at this
    rcases this.1.2 with z | z
    · exact absurd e (of_decide_eq_true z)
    · exact of_decide_eq_true z
  · have := h1 y hy
    rw [Bool.and_eq_true, Bool.and_eq_true, Bool.or_eq_true, Bool.or_eq_true, Bool.or_eq_true] at this
    rcases this.2 with (z | z) | z
    · exact absurd e (of_decide_eq_true z)
    · exact .inl (of_decide_eq_true z)
    · exact .inr (of_decide_eq_true z)
  · have hi : i < js.length := (List.getElem?_eq_some_iff.mp a).1
    have := h4 i (List.mem_range.mpr hi)
    rw [a, b] at this
    dsimp only at this
    rw [Bool.and_eq_true, Bool.and_eq_true, Bool.or_eq_true] at this
    exact ⟨of_decide_eq_true this.1.1, of_decide_eq_true this.1.2, this.2.imp of_decide_eq_true of_decide_eq_true⟩
section
variable {X : Cx} {XN : List Str} {sc scope : Scope} {elt tg iter : Expr} {ifs : List Expr} {pos : Pos} {N : List Str} {own : Nat} {js : List Nat} {wi : TI} {g : TG} {ti : TT} {te : TE}
theorem pe_compB (hc : X.calm = true) (ok : compOk XN sc scope own js N = true) (hsc : X.env.scope = sc) (hXN : X.N = XN) (hi : PI X tg iter wi) (hg : ∀ C s₀ H₀ ex, PG (X.comp scope C N s₀ H₀ ex fun _ _ => False) tg g) (ho : OwnG own g)
    (ht : ∀ C s₀ H₀ ex, PIfs (X.comp scope C N s₀ H₀ ex fun _ _ => False) ifs ti) (he : ∀ C s₀ H₀ ex, PE (X.comp scope C N s₀ H₀ ex fun _ _ => False) elt te)
    (hs : ∀ x, foldedSetIterable iter X.env x = pure x := by intro _; rfl) : PE X (.ListComp elt [⟨tg, iter, ifs, 0⟩] scope pos) (tComp own js wi g ti te) := by
  obtain ⟨h1, h2, h3, h4, h5, h6⟩ := compOk_of ok
  subst hsc hXN
  refine pe_comp hc h1 h4 h2 h3 h5 (fun i j x a b => ?_) hi hg ho ht he hs
  obtain ⟨z1, z2, z3⟩ := h6 i j x a b
  exact ⟨z1, PySem.mem_of_lookup z2, z3, lookup_relabel_free z2⟩
end
/-- over range(lo, lo + n): the word of the turn and of the list so far -/
theorem comp_range {lo : Int} {n : Nat} {own : Nat} {js : List Nat} {g : TG} {ti : TT} {te : TE} {σ : St} {H1 : Hp} {acc : Addr} {Q : VK} (Pv : Nat → Hp → Prop) (h0 : Pv 0 (upd H1 acc (.lst [])))
    (hs : ∀ i H2, i < n → Pv i H2 → g (.int (lo + i)) (capt own js σ) H2 fun σ4 H4 => ti σ4 H4 fun b H5 => if b = true then te σ4 H5 fun y H6 => rAppend (.ref acc) [y] H6 fun _ H7 => Pv (i + 1) H7 else Pv (i + 1) H5) (hd : ∀ H2, Pv n H2 → Q (.ref acc) H2)
    (mono : ∀ σ H (R R' : St → Hp → Prop) x, (∀ σ' H', R σ' H' → R' σ' H') → g x σ H R → g x σ H R') (monoT : ∀ σ H (R R' : Bool → Hp → Prop), (∀ b H', R b H' → R' b H') → ti σ H R → ti σ H R') (monoE : ∀ σ H (R R' : VK), (∀ v H', R v H' → R' v H') → te σ H R → te σ H R') :
    CompW (Itr lo n) own js g ti te σ H1 acc Q := by
  refine ⟨fun i m H2 => m = n - i ∧ i ≤ n ∧ Pv i H2, ⟨n, by simp, Nat.zero_le _, h0⟩, ?_⟩
  rintro i m H2 ⟨rfl, hi, p⟩
  by_cases hlt : i < n
  · refine .inr ⟨hlt, fun x H3 y => ?_⟩
    obtain ⟨e1, e2⟩ := y
    subst e1 e2
    refine mono _ _ _ _ _ (fun σ4 H4 q => monoT _ _ _ _ (fun b H5 q => ?_) q) (hs i _ hlt p)
    cases b with
    | true =>
      refine monoE _ _ _ _ (fun v H6 q => ?_) q
      obtain ⟨l, xs, y, a1, a2, a3, a4, a5⟩ := q
      exact ⟨l, xs, y, a1, a2, a3, a4, n - (i + 1), by omega, rfl, hlt, a5⟩
    | false => exact ⟨n - (i + 1), by omega, rfl, hlt, q⟩
  · have e : i = n := by omega
    subst e
    exact .inl ⟨Nat.le_refl _, hd H2 p⟩
/-- over a list that stays -/
theorem comp_list {K : PySem.W.Frag} {a : Addr} {xs : List V} {own : Nat} {js : List Nat} {g : TG} {ti : TT} {te : TE} {σ : St} {H1 : Hp} {acc : Addr} {Q : VK} (Pv : Nat → Hp → Prop) (h0 : Pv 0 (upd H1 acc (.lst []))) (hl : ∀ i H2, i ≤ xs.length → Pv i H2 → SqL K H2 a xs)
    (hs : ∀ i x H2, xs[i]? = some x → Pv i H2 → g x (capt own js σ) H2 fun σ4 H4 => ti σ4 H4 fun b H5 => if b = true then te σ4 H5 fun y H6 => rAppend (.ref acc) [y] H6 fun _ H7 => Pv (i + 1) H7 else Pv (i + 1) H5) (hd : ∀ H2, Pv xs.length H2 → Q (.ref acc) H2)
    (mono : ∀ σ H (R R' : St → Hp → Prop) x, (∀ σ' H', R σ' H' → R' σ' H') → g x σ H R → g x σ H R') (monoT : ∀ σ H (R R' : Bool → Hp → Prop), (∀ b H', R b H' → R' b H') → ti σ H R → ti σ H R') (monoE : ∀ σ H (R R' : VK), (∀ v H', R v H' → R' v H') → te σ H R → te σ H R') :
    CompW (Itl K a) own js g ti te σ H1 acc Q := by
  refine ⟨fun i m H2 => m = xs.length - i ∧ i ≤ xs.length ∧ Pv i H2, ⟨xs.length, by simp, Nat.zero_le _, h0⟩, ?_⟩
  rintro i m H2 ⟨rfl, hi, p⟩
  have q := hl i H2 hi p
  by_cases hlt : i < xs.length
  · refine .inr ⟨⟨xs, xs[i], q, by simp [hlt]⟩, fun x H3 y => ?_⟩
    obtain ⟨e1, y⟩ := y
    subst e1
    refine mono _ _ _ _ _ (fun σ4 H4 q => monoT _ _ _ _ (fun b H5 q => ?_) q) (hs i x _ (y xs q) p)
    cases b with
    | true =>
      refine monoE _ _ _ _ (fun v H6 q => ?_) q
      obtain ⟨l, xs, y, a1, a2, a3, a4, a5⟩ := q
      exact ⟨l, xs, y, a1, a2, a3, a4, _, by omega, rfl, hlt, a5⟩
    | false => exact ⟨_, by omega, rfl, hlt, q⟩
  · have e : i = xs.length := by omega
    subst e
    exact .inl ⟨⟨xs, q, Nat.le_refl _⟩, hd H2 p⟩
theorem mono_name {i : Nat} : ∀ (σ : St) (H : Hp) (R R' : St → Hp → Prop) (x : V), (∀ σ' H', R σ' H' → R' σ' H') → gName i x σ H R → gName i x σ H R' := fun _ _ _ _ _ k h => k _ _ h
theorem ixN_nat {n i : Nat} (h : i < n) : ixN n (i : Int) = some i := by
  unfold ixN
  rw [if_pos (by omega), if_pos (by omega), Int.toNat_natCast]
theorem mono_yes : ∀ (σ : St) (H : Hp) (R R' : Bool → Hp → Prop), (∀ b H', R b H' → R' b H') → tYes σ H R → tYes σ H R' := fun _ _ _ _ k h => k _ _ h
end L2
/-! ### rules that name the written part, for a comprehension's block -/
namespace L2
open PySem PySem.Spec PyProof.Rows
section
variable {X : Cx} {K : PySem.W.Frag}
theorem ix_listK (h : X.K = K) : IxR X (rIxL K) := h ▸ ix_list
end
end L2
/-! ### ==, != of ints, lists, tuples at any depth; sum; // by larger numbers -/
namespace L2
open PySem PySem.Spec PyProof.Rows
/-- what == tells, d deep -/
inductive EqR (K : PySem.W.Frag) (H : Hp) : Nat → V → V → Bool → Prop where
  | int (d : Nat) (i j : Int) : EqR K H d (.int i) (.int j) (decide (i = j))
  | lists {d : Nat} {a b : Addr} {xs ys : List V} (es : Nat → Bool) (h1 : SqL K H a xs) (h2 : SqL K H b ys) (hl : xs.length = ys.length) (he : ∀ (j : Nat) x y, xs[j]? = some x → ys[j]? = some y → EqR K H d x y (es j)) : EqR K H (d + 1) (.ref a) (.ref b) ((List.range xs.length).all es)
  | lens {d : Nat} {a b : Addr} {xs ys : List V} (h1 : SqL K H a xs) (h2 : SqL K H b ys) (hl : xs.length ≠ ys.length) : EqR K H (d + 1) (.ref a) (.ref b) false
  | tuples {d : Nat} {a b : Addr} {xs ys : List V} (es : Nat → Bool) (h1 : SqT K H a xs) (h2 : SqT K H b ys) (he : ∀ (j : Nat) x y, xs[j]? = some x → ys[j]? = some y → EqR K H d x y (es j)) : EqR K H (d + 1) (.ref a) (.ref b) ((List.range (min xs.length ys.length)).all es && xs.length == ys.length)
section
variable {X : Cx} {pins : List (Addr × Obj)} {σ : St} {H : Hp} {s : Shared}
theorem EqR.same (I : Inv X pins σ H s) {d : Nat} {x y : V} {e : Bool} (h : EqR X.K H d x y e) : x = y → e = true := by
  induction h with
  | int d i j => intro q; cases q; simp
  | lists es h1 h2 hl he ih =>
    intro q
    cases q
    have z := I.list_inj h1 h2
    subst z
    rw [List.all_eq_true]
    intro j hj
    rw [List.mem_range] at hj
    have hx := List.getElem?_eq_getElem hj
    exact ih j _ _ hx hx rfl
  | lens h1 h2 hl =>
    intro q
    cases q
    exact absurd (congrArg List.length (I.list_inj h1 h2)) hl
  | @tuples d a b xs ys es h1 h2 he ih =>
    intro q
    cases q
    have z := I.tuple_inj h1 h2
    subst z
    rw [Bool.and_eq_true]
    refine ⟨?_, by simp⟩
    rw [List.all_eq_true]
    intro j hj
    rw [List.mem_range, Nat.min_self] at hj
    have hx := List.getElem?_eq_getElem hj
    exact ih j _ _ hx hx rfl
theorem units_in1 (A : Around) : A.in1.units = A.units + 1 := rfl
theorem EqR.at_ (I : Inv X pins σ H s) {d : Nat} {x y : V} {e : Bool} (h : EqR X.K H d x y e) : ∀ {A : Around} {u v : Value}, A.units + d < cLine → RelV x u → RelV y v → SeqAt.RcAt A s u v e ∧ SeqAt.RcNeAt A s u v (!e) ∧ SeqAt.EqAt A s u v e := by
  induction h with
  | int d i j =>
    intro A u v hu ru rv
    obtain ⟨t, rfl⟩ := ru
    obtain ⟨t', rfl⟩ := rv
    have e : decide (i = j) = (i == j) := by rw [Bool.beq_eq_decide_eq]
    rw [e]
    exact ⟨SeqAt.RcAt.int_int i t j t', SeqAt.RcNeAt.int_int i t j t', SeqAt.EqAt.int_int i t j t'⟩
  | @lists d a b xs ys es h1 h2 hl he ih =>
    intro A u v hu ru rv
    obtain rfl : u = Value.ref a := ru
    obtain rfl : v = Value.ref b := rv
    obtain ⟨is, r1, p1, z1⟩ := I.list h1
    obtain ⟨js, r2, p2, z2⟩ := I.list h2
    have l1 := r1.length
    have l2 := r2.length
    have ln : xs.length = is.toArray.size := by simpa using l1
    have sz : is.toArray.size = js.toArray.size := by simp only [List.size_toArray]; omega
    have it : ∀ j (q1 : j < is.toArray.size) (q2 : j < js.toArray.size), SeqAt.EqAt A.in1 s is.toArray[j] js.toArray[j] (es j) := fun j q1 q2 => by
      simp only [List.size_toArray] at q1 q2
      have hx : xs[j]? = some xs[j] := List.getElem?_eq_getElem (by omega)
      have hy : ys[j]? = some ys[j] := List.getElem?_eq_getElem (by omega)
      obtain ⟨u1, e1, ru1⟩ := r1.get hx
      obtain ⟨u2, e2, ru2⟩ := r2.get hy
      have g1 : is.toArray[j] = u1 := by
        rw [List.getElem?_eq_getElem q1] at e1
        simpa using Option.some.inj e1
      have g2 : js.toArray[j] = u2 := by
        rw [List.getElem?_eq_getElem q2] at e2
        simpa using Option.some.inj e2
      rw [g1, g2]
      exact (ih j _ _ hx hy (by rw [units_in1]; omega) ru1 ru2).2.2
    rw [ln]
    have R := SeqAt.RcAt.lists (A := A) p1.isList p2.isList sz (by omega) it
    refine ⟨R, SeqAt.RcNeAt.lists p1.isList p2.isList sz (by omega) it, ?_⟩
    by_cases q : a = b
    · subst q
      have := (EqR.lists es h1 h2 hl he).same I rfl
      rw [ln] at this
      rw [this]
      exact SeqAt.EqAt.same _
    · exact SeqAt.EqAt.of_refs q R
  | @lens d a b xs ys h1 h2 hl =>
    intro A u v hu ru rv
    obtain rfl : u = Value.ref a := ru
    obtain rfl : v = Value.ref b := rv
    obtain ⟨is, r1, p1, z1⟩ := I.list h1
    obtain ⟨js, r2, p2, z2⟩ := I.list h2
    have l1 := r1.length
    have l2 := r2.length
    have sz : (is.toArray.size != js.toArray.size) = true := by
      simp only [List.size_toArray, bne_iff_ne, ne_eq]
      omega
    have R := SeqAt.RcAt.lists_lengths (A := A) p1.isList p2.isList sz (by omega)
    refine ⟨R, SeqAt.RcNeAt.lists_lengths p1.isList p2.isList sz (by omega), ?_⟩
    by_cases q : a = b
    · subst q
      exact absurd (congrArg List.length (I.list_inj h1 h2)) hl
    · exact SeqAt.EqAt.of_refs q R
  | @tuples d a b xs ys es h1 h2 he ih =>
    intro A u v hu ru rv
    obtain rfl : u = Value.ref a := ru
    obtain rfl : v = Value.ref b := rv
    obtain ⟨is, r1, p1, z1⟩ := I.tuple h1
    obtain ⟨js, r2, p2, z2⟩ := I.tuple h2
    have l1 := r1.length
    have l2 := r2.length
    have ln : xs.length = is.toArray.size := by simpa using l1
    have ln2 : ys.length = js.toArray.size := by simpa using l2
    have it : ∀ j (q1 : j < is.toArray.size) (q2 : j < js.toArray.size), SeqAt.EqAt A.in1 s is.toArray[j] js.toArray[j] (es j) := fun j q1 q2 => by
      simp only [List.size_toArray] at q1 q2
      have hx : xs[j]? = some xs[j] := List.getElem?_eq_getElem (by omega)
      have hy : ys[j]? = some ys[j] := List.getElem?_eq_getElem (by omega)
      obtain ⟨u1, e1, ru1⟩ := r1.get hx
      obtain ⟨u2, e2, ru2⟩ := r2.get hy
      have g1 : is.toArray[j] = u1 := by
        rw [List.getElem?_eq_getElem q1] at e1
        simpa using Option.some.inj e1
      have g2 : js.toArray[j] = u2 := by
        rw [List.getElem?_eq_getElem q2] at e2
        simpa using Option.some.inj e2
      rw [g1, g2]
      exact (ih j _ _ hx hy (by rw [units_in1]; omega) ru1 ru2).2.2
    rw [ln, ln2]
    have R := SeqAt.RcAt.tuples (A := A) (show s.heap.IsTuple a is.toArray from p1) (show s.heap.IsTuple b js.toArray from p2) (by omega) it
    refine ⟨R, SeqAt.RcNeAt.tuples (show s.heap.IsTuple a is.toArray from p1) (show s.heap.IsTuple b js.toArray from p2) (by omega) it, ?_⟩
    by_cases q : a = b
    · subst q
      have := (EqR.tuples es h1 h2 he).same I rfl
      rw [ln, ln2] at this
      rw [this]
      exact SeqAt.EqAt.same _
    · exact SeqAt.EqAt.of_refs q R
/-- == and != of lists and tuples -/
def rEqS (K : PySem.W.Frag) (neg : Bool) : R2 := fun x y H Q => ∃ d e, EqR K H d x y e ∧ d ≤ 8 ∧ Q (.bl (if neg then !e else e)) H
theorem op_neS {k : Nat} (hr : Room k X.A) : OpR X (compareOp .NotEq) (rEqS X.K true) := by
  intro pins s σ H x y v u Q I rx ry h
  obtain ⟨d, e, r, hd, q⟩ := h
  have hu := hr.un
  exact (r.at_ I (A := X.A) (by omega) rx ry).2.1 X.prog X.w X.xe _ ⟨.bl (!e), H, I, rfl, q⟩
/-- sum of a list of ints -/
theorem call_sum (hc : X.calm = true) : CallR X (.builtin "sum") (fun xs H Q => ∃ (p : Addr) (ns : List Int), xs = [.ref p] ∧ SqL X.K H p (ns.map V.int) ∧ Q (.int ns.sum) H) := by
  intro pins s σ H xs us Q I r h
  obtain ⟨p, ns, rfl, hq, q⟩ := h
  obtain ⟨u, rfl, rx⟩ := vals1 r
  cases rx
  obtain ⟨its, r', pl, hz⟩ := I.list hq
  have hi : IntsAre its ns := intsAre_of r'
  obtain ⟨ys, e⟩ := hi.allInts.items
  have hl := pl.isList
  rw [e] at hl
  refine sum_intListG (I.ok.hd hc) hl fun h' tk t' hk => ⟨.int ns.sum, H, I.kept hk, ⟨t', ?_⟩, q⟩
  have n1 := hi.numsOf
  rw [show its = its.toArray.toList from rfl, e, nums_intItems] at n1
  rw [preSum_eq, List.take_of_length_le (by simp), n1]
/-- // by a number of at most 512 bits -/
def CDB (_ j : Int) : Prop := j ≠ 0 ∧ j.natAbs < 2 ^ 512
theorem op_fdivB : OpR X (binaryOp .FloorDiv) (rI CDB fun i j => .int (i.fdiv j)) := opI fun i j _ _ _ _ _ hc q => floordiv_int hc.1 q (.inl (PyProof.noPylong_of_log2 (by
  have h0 : j.natAbs ≠ 0 := by have := hc.1; omega
  have := (Nat.log2_lt h0).mpr hc.2
  omega)))
end
end L2
/-! ### reversed(xs) of a list: as a list, as a loop's source -/
namespace L2
open PySem PySem.Spec PyProof.Rows
section
variable {prog : Program} {w : World} {A : Around} {E : Value → Shared → Prop} {s : Shared}
end
section
variable {X : Cx} {e : Expr} {te : TE} {p1 p2 p3 pos : Pos}
end
end L2
/-! ### for i, x in enumerate(xs) -/
namespace L2
open PySem PySem.Spec PyProof.Rows
/-- at turn i a new tuple (i, x) -/
def Ite (K : PySem.W.Frag) (a : Addr) : It :=
  ⟨fun i H => ∃ xs x, SqL K H a xs ∧ xs[i]? = some x, fun i H v H' => ∃ x p, (∀ xs, SqL K H a xs → xs[i]? = some x) ∧ v = .ref p ∧ H p = none ∧ H' = upd H p (.tup [.int i, x]), fun i H => ∃ xs, SqL K H a xs ∧ xs.length ≤ i⟩
theorem turn_enum {P : Program} {w : World} {K : PySem.W.Frag} {elts : List Expr} {k : Nat} {pos : Pos} (a e it : Addr) (hne : e ≠ it) :
    Turn P w K (.Tuple elts k pos) (Ite K a) [e, it] e (fun i h => (∃ old, IsEnum h e it (i : Nat) old) ∧ h.IsListIter it a i) where
  mem := by simp
  obj := fun i h st b hb => by
    obtain ⟨⟨old, h1⟩, o, h2, h3, h4⟩ := st
    rcases List.mem_cons.mp hb with z | z
    · subst z
      exact ⟨_, h1, fun v y => by cases y⟩
    · rw [List.mem_singleton.mp z]
      exact ⟨o, h2, fun v y => by rw [h4] at y; cases y⟩
  keep := fun i h h' st kk => ⟨st.1.imp fun old z => kk e (by simp) _ z, st.2.at fun o z => kk it (by simp) o z⟩
  item := by
    intro X hP hw hK hc i pins s σ H E I hf st hg
    subst hP hw hK
    obtain ⟨xs, x, hq, hx⟩ := hg
    obtain ⟨its, rv, p, hz⟩ := I.list hq
    obtain ⟨u, hu, ru⟩ := rv.get hx
    obtain ⟨⟨old, he⟩, hit⟩ := st
    have nf : H s.heap.objs.size = none := I.hok.fresh (Nat.le_refl _)
    have ltE : e < s.heap.objs.size := Heap.lt_size he
    refine wpAny_pyNext_enum_item he hit p.isList (x := u) (by simpa using hu) hne fun h' ho hit' hT hsz hk => ⟨.ref s.heap.objs.size, rfl, ?_⟩
    refine wpAny_letOwnedTupleGo_enum ho fun h2 he2 sb => ?_
    have k2 : ∀ b o, b ≠ e → b ≠ it → s.heap.get? b = some o → h2.get? b = some o := fun b o n1 n2 z => (sb.2 b n1).trans (hk b o n1 n2 z)
    have hT2 : h2.get? s.heap.objs.size = some { cls := .type "tuple", data := .seq #[.int i s.toks, u] } := (sb.2 _ (Nat.ne_of_gt ltE)).trans hT
    have hch : ∀ b, b ∉ [e, it] → b ≠ e ∧ b ≠ it := fun b z => ⟨fun y => z (by simp [y]), fun y => z (by simp [y])⟩
    refine ⟨.ref s.heap.objs.size, upd H s.heap.objs.size (.tup [.int i, x]), ?_, rfl, ⟨x, _, fun ys hy => by rw [I.list_inj hy hq]; exact hx, rfl, nf, rfl⟩, ⟨⟨u, by simpa using he2⟩, hit'.at fun o z => (sb.2 it hne.symm).trans z⟩, fun b hb => ?_⟩
    · refine I.step (s := s) (h' := h2) (g' := s.gens) (d' := s.drawn) (t' := s.toks + 1) (ch := [e, it]) (fun b hb => ?_) (fun b o _ _ c z _ => k2 b o (hch b c).1 (hch b c).2 z) (fun b o _ _ c z _ => ⟨o.slots, k2 b o (hch b c).1 (hch b c).2 z⟩)
        (fun b o c z n => ?_) (fun b o c z => ⟨o, k2 b o (hch b c).1 (hch b c).2 z⟩) (fun b ys z => ?_) (fun b o v z => ?_) (fun b ps z => ⟨#[], ?_⟩) (fun m hm => ?_) (fun b v z => ?_) I.bare
      · obtain ⟨a1, a2, a3, a4, a5, a6⟩ := hf b hb
        exact ⟨a4, a2, a5, a6⟩
      · rw [upd_ne (Nat.ne_of_lt (Heap.lt_size z))]
        exact n
      · rw [upd_ne (ne_of_none z nf)]
        exact z
      · rw [upd_ne (ne_of_none z nf)]
        exact z
      · rw [upd_ne (ne_of_none z nf), z]
        simp
      · obtain ⟨o, es, ep, ho', r⟩ := hm
        exact ⟨o, es, ep, k2 _ o (fun y => (hf e (by simp)).2.1 y.symm) (fun y => (hf it (by simp)).2.1 y.symm) ho', r⟩
      · by_cases hb : b = s.heap.objs.size
        · subst hb
          rw [upd_same] at z
          cases z
          exact ⟨by show 2 ≤ sizeLine; decide, [.int i s.toks, u], .cons ⟨_, rfl⟩ (.cons ru .nil), ⟨_, hT2, rfl, _, rfl⟩⟩
        · rw [upd_ne hb] at z
          refine (I.hok b v z).stay (fun c o hc y => k2 c o ?_ ?_ y) (fun c y => ?_) fun c ys y => ?_
          · rcases hc with q | q
            · rw [q]; exact fun y => by rw [y, (hf e (by simp)).1] at z; cases z
            · exact fun y => by rw [y, (hf e (by simp)).1] at q; cases q
          · rcases hc with q | q
            · rw [q]; exact fun y => by rw [y, (hf it (by simp)).1] at z; cases z
            · exact fun y => by rw [y, (hf it (by simp)).1] at q; cases q
          · rw [upd_ne (ne_of_none y nf)]; exact y
          · rw [upd_ne (ne_of_none y nf)]; exact y
    · obtain ⟨o, z, _⟩ := (show ∃ o, s.heap.get? b = some o ∧ True from by
        rcases List.mem_cons.mp hb with q | q
        · rw [q]; exact ⟨_, he, trivial⟩
        · rw [List.mem_singleton.mp q]
          obtain ⟨o, y, _⟩ := hit
          exact ⟨o, y, trivial⟩)
      rw [upd_ne (Nat.ne_of_lt (Heap.lt_size z))]
      exact (hf b hb).1
  done := by
    intro X hP hw hK hc i pins s σ H E I hf st hg
    subst hP hw hK
    obtain ⟨xs, hq, hx⟩ := hg
    obtain ⟨its, rv, p, hz⟩ := I.list hq
    obtain ⟨⟨old, he⟩, hit⟩ := st
    have hl := rv.length
    obtain ⟨f0, f1, f2, f3, f4, f5⟩ := hf it (by simp)
    exact wpAny_pyNext_enum_end (I.ok.hd hc) he hit p.isList (by simp; omega) fun h' eb => ⟨rfl, I.turned (t' := s.toks) (fun b o hb z => eb b o hb z) f0 f1 f3 f4 f5⟩
  self := fun _ _ _ _ _ st h => let ⟨⟨_, z⟩, _⟩ := st; wpAny_pyIter_enum z h
section
variable {X : Cx} {elts : List Expr} {k : Nat} {tpos p pos : Pos} {e : Expr} {te : TE}
def iEnum (K : PySem.W.Frag) (tl : TE) : TI := fun σ H R => tl σ H fun x H1 => ∃ a, x = .ref a ∧ (∃ xs, SqL K H1 a xs) ∧ R (Ite K a) H1
theorem pi_enum (hg : Gl X "enumerate") (hm : X.mg "enumerate" = none) (hl : PE X e te) (he : starEach [e] X.env = [(false, eval e X.env)] := by rfl) : PI X (.Tuple elts k tpos) (.Call (.Name "enumerate" p) [e] [] pos) (iEnum X.K te) := by
  intro pins s σ H R I h
  refine wpAny_Call_Name_kw (ld_blt I hg hm boot_enumerate ?_)
  refine PyProof.Rows.callWith_type1 (thn ((pa_cons hl pa_nil he) _ pins s σ H (fun vs H1 => match vs with | [x] => (∃ a, x = .ref a ∧ (∃ xs, SqL X.K H1 a xs) ∧ R (Ite X.K a) H1) | _ => False) I h) fun us s1 ⟨vs, H1, I1, r1, q1⟩ => ?_) he (by rfl)
  match vs, q1, r1 with
  | [x], q1, r1 =>
  obtain ⟨a, rfl, ⟨xs, hq⟩, q⟩ := q1
  obtain ⟨u, rfl, ru⟩ := vals1 r1
  obtain rfl : u = Value.ref a := ru
  obtain ⟨its, rv, pl, hz⟩ := I1.list hq
  refine call_enumerate_list pl.isList fun h' hen hit hsz hk => ?_
  refine wpAny_pyIter_enum hen ?_
  refine ⟨_, [_, _], _, _, H1, rfl, I1.kept (t' := s1.toks) hk, turn_enum a _ _ (Nat.ne_of_gt (Nat.lt_succ_self _)), ⟨⟨_, by simpa using hen⟩, hit⟩, fun b hb => ?_, q⟩
  have fr : ∀ b, s1.heap.objs.size ≤ b → FpOk X pins H1 b := fun b z => I1.fpOk z (I1.hok.fresh z)
  rcases List.mem_cons.mp hb with z | z
  · rw [z]; exact fr _ (Nat.le_succ _)
  · rw [List.mem_singleton.mp z]; exact fr _ (Nat.le_refl _)
end
end L2

/-! ### xs[::-1]; a wished state behind a statement -/
namespace L2
open PySem PySem.Spec PyProof.Rows
section
variable {X : Cx} {e : Expr} {te : TE} {st : Expr} {ts : TO} {pos p2 : Pos}
end
section
variable {X : Cx} {st : Stmt} {t : TS}
end
end L2
/-! ### data: ints, lists, tuples, at any depth -/
namespace L2
open PySem PySem.Spec PyProof.Rows
inductive D where
  | i (n : Int) | l (xs : List D) | t (xs : List D)
mutual
/-- the value v is the datum -/
def Is (H : Hp) : D → V → Prop
  | .i n, v => v = .int n
  | .l xs, v => ∃ a vs, v = .ref a ∧ H a = some (.lst vs) ∧ Iss H xs vs
  | .t xs, v => ∃ a vs, v = .ref a ∧ H a = some (.tup vs) ∧ Iss H xs vs
def Iss (H : Hp) : List D → List V → Prop
  | [], vs => vs = []
  | x :: xs, vs => ∃ u us, vs = u :: us ∧ Is H x u ∧ Iss H xs us
end
theorem is_i {H : Hp} {n : Int} : Is H (.i n) (.int n) := by unfold Is; rfl
theorem is_l {H : Hp} {a : Addr} {xs : List D} {vs : List V} (h : H a = some (.lst vs)) (k : Iss H xs vs) : Is H (.l xs) (.ref a) := by unfold Is; exact ⟨a, vs, rfl, h, k⟩
theorem is_t {H : Hp} {a : Addr} {xs : List D} {vs : List V} (h : H a = some (.tup vs)) (k : Iss H xs vs) : Is H (.t xs) (.ref a) := by unfold Is; exact ⟨a, vs, rfl, h, k⟩
theorem of_i {H : Hp} {n : Int} {v : V} (h : Is H (.i n) v) : v = .int n := by unfold Is at h; exact h
theorem of_l {H : Hp} {xs : List D} {v : V} (h : Is H (.l xs) v) : ∃ a vs, v = .ref a ∧ H a = some (.lst vs) ∧ Iss H xs vs := by unfold Is at h; exact h
theorem of_t {H : Hp} {xs : List D} {v : V} (h : Is H (.t xs) v) : ∃ a vs, v = .ref a ∧ H a = some (.tup vs) ∧ Iss H xs vs := by unfold Is at h; exact h
theorem iss_nil {H : Hp} : Iss H [] [] := by unfold Iss; rfl
theorem iss_cons {H : Hp} {x : D} {xs : List D} {u : V} {us : List V} (h : Is H x u) (k : Iss H xs us) : Iss H (x :: xs) (u :: us) := by unfold Iss; exact ⟨u, us, rfl, h, k⟩
theorem of_cons {H : Hp} {x : D} {xs : List D} {vs : List V} (h : Iss H (x :: xs) vs) : ∃ u us, vs = u :: us ∧ Is H x u ∧ Iss H xs us := by unfold Iss at h; exact h
theorem of_nil {H : Hp} {vs : List V} (h : Iss H [] vs) : vs = [] := by unfold Iss at h; exact h
mutual
theorem Is.mono {H H' : Hp} (s : Same H H') : ∀ {d : D} {v : V}, Is H d v → Is H' d v
  | .i _, _, h => by rw [of_i h]; exact is_i
  | .l xs, _, h => by
    obtain ⟨a, vs, e, q, r⟩ := of_l h
    rw [e]
    exact is_l (s _ _ q) (Iss.mono s r)
  | .t xs, _, h => by
    obtain ⟨a, vs, e, q, r⟩ := of_t h
    rw [e]
    exact is_t (s _ _ q) (Iss.mono s r)
theorem Iss.mono {H H' : Hp} (s : Same H H') : ∀ {xs : List D} {vs : List V}, Iss H xs vs → Iss H' xs vs
  | [], _, h => by rw [of_nil h]; exact iss_nil
  | x :: xs, _, h => by
    obtain ⟨u, us, e, q, r⟩ := of_cons h
    rw [e]
    exact iss_cons (Is.mono s q) (Iss.mono s r)
end
theorem Iss.length {H : Hp} : ∀ {xs : List D} {vs : List V}, Iss H xs vs → vs.length = xs.length
  | [], _, h => by rw [of_nil h]; rfl
  | x :: xs, _, h => by
    obtain ⟨u, us, rfl, _, r⟩ := of_cons h
    rw [List.length_cons, List.length_cons, r.length]
theorem Iss.get {H : Hp} : ∀ {xs : List D} {vs : List V} {j : Nat} {x : D}, Iss H xs vs → xs[j]? = some x → ∃ v, vs[j]? = some v ∧ Is H x v
  | [], _, _, _, _, e => by simp at e
  | x :: xs, _, 0, _, h, e => by
    obtain ⟨u, us, rfl, q, _⟩ := of_cons h
    simp at e
    subst e
    exact ⟨u, rfl, q⟩
  | x :: xs, _, j + 1, _, h, e => by
    obtain ⟨u, us, rfl, _, r⟩ := of_cons h
    obtain ⟨v, e', k⟩ := r.get (j := j) (by simpa using e)
    exact ⟨v, by simpa using e', k⟩
theorem Iss.of_get {H : Hp} {xs : List D} {vs : List V} {j : Nat} {v : V} (h : Iss H xs vs) (e : vs[j]? = some v) : ∃ x, xs[j]? = some x ∧ Is H x v := by
  have hj : j < vs.length := (List.getElem?_eq_some_iff.mp e).1
  have hj' : j < xs.length := by rw [← h.length]; exact hj
  obtain ⟨u, e1, k⟩ := h.get (List.getElem?_eq_getElem hj')
  rw [e] at e1
  cases e1
  exact ⟨_, List.getElem?_eq_getElem hj', k⟩
theorem Iss.append {H : Hp} : ∀ {xs ys : List D} {vs ws : List V}, Iss H xs vs → Iss H ys ws → Iss H (xs ++ ys) (vs ++ ws)
  | [], _, _, _, h, k => by rw [of_nil h]; exact k
  | x :: xs, _, _, _, h, k => by
    obtain ⟨u, us, rfl, q, r⟩ := of_cons h
    exact iss_cons q (r.append k)
theorem Iss.take {H : Hp} : ∀ {xs : List D} {vs : List V} (n : Nat), Iss H xs vs → Iss H (xs.take n) (vs.take n)
  | [], _, n, h => by rw [of_nil h]; simp; exact iss_nil
  | x :: xs, _, 0, h => by simp; exact iss_nil
  | x :: xs, _, n + 1, h => by
    obtain ⟨u, us, rfl, q, r⟩ := of_cons h
    exact iss_cons q (r.take n)
theorem Iss.drop {H : Hp} : ∀ {xs : List D} {vs : List V} (n : Nat), Iss H xs vs → Iss H (xs.drop n) (vs.drop n)
  | [], _, n, h => by rw [of_nil h]; simp; exact iss_nil
  | x :: xs, _, 0, h => h
  | x :: xs, _, n + 1, h => by
    obtain ⟨u, us, rfl, q, r⟩ := of_cons h
    exact r.drop n
theorem Iss.rep {H : Hp} {x : D} {v : V} (h : Is H x v) : ∀ n : Nat, Iss H (List.replicate n x) (List.replicate n v)
  | 0 => iss_nil
  | n + 1 => by rw [List.replicate_succ, List.replicate_succ]; exact iss_cons h (Iss.rep h n)
mutual
/-- may be compared -/
def Kin : D → D → Prop
  | .i _, .i _ => True
  | .l xs, .l ys => Kins xs ys
  | .t xs, .t ys => Kins xs ys
  | _, _ => False
def Kins : List D → List D → Prop
  | x :: xs, y :: ys => Kin x y ∧ Kins xs ys
  | _, _ => True
end
mutual
def eqD : D → D → Bool
  | .i a, .i b => decide (a = b)
  | .l xs, .l ys => eqDs xs ys
  | .t xs, .t ys => eqDs xs ys
  | _, _ => false
def eqDs : List D → List D → Bool
  | [], [] => true
  | x :: xs, y :: ys => eqD x y && eqDs xs ys
  | _, _ => false
end
mutual
def dep : D → Nat
  | .i _ => 0
  | .l xs => deps xs + 1
  | .t xs => deps xs + 1
def deps : List D → Nat
  | [] => 0
  | x :: xs => max (dep x) (deps xs)
end
mutual
theorem eqD_iff : ∀ {a b : D}, eqD a b = true ↔ a = b
  | .i a, .i b => by simp [eqD]
  | .i _, .l _ => by simp [eqD]
  | .i _, .t _ => by simp [eqD]
  | .l _, .i _ => by simp [eqD]
  | .l xs, .l ys => by simp [eqD, eqDs_iff (xs := xs) (ys := ys)]
  | .l _, .t _ => by simp [eqD]
  | .t _, .i _ => by simp [eqD]
  | .t _, .l _ => by simp [eqD]
  | .t xs, .t ys => by simp [eqD, eqDs_iff (xs := xs) (ys := ys)]
theorem eqDs_iff : ∀ {xs ys : List D}, eqDs xs ys = true ↔ xs = ys
  | [], [] => by simp [eqDs]
  | [], _ :: _ => by simp [eqDs]
  | _ :: _, [] => by simp [eqDs]
  | x :: xs, y :: ys => by simp [eqDs, eqD_iff (a := x) (b := y), eqDs_iff (xs := xs) (ys := ys)]
end
theorem eqD_self {a : D} : eqD a a = true := eqD_iff.mpr rfl
theorem eqDs_all : ∀ {xs ys : List D}, xs.length = ys.length → eqDs xs ys = (List.range xs.length).all fun j => eqD (xs.getD j (.i 0)) (ys.getD j (.i 0))
  | [], [], _ => by simp [eqDs]
  | x :: xs, y :: ys, h => by
    have ih := eqDs_all (xs := xs) (ys := ys) (by simpa using h)
    rw [eqDs, ih, List.length_cons, List.range_succ_eq_map]
    simp [List.all_map, Function.comp_def]
theorem eqDs_len {xs ys : List D} (h : xs.length ≠ ys.length) : eqDs xs ys = false := by
  cases e : eqDs xs ys with
  | false => rfl
  | true => exact absurd (congrArg List.length (eqDs_iff.mp e)) h
mutual
theorem Is.eqr {K : PySem.W.Frag} {H : Hp} : ∀ {d e : D} {v w : V} {n : Nat}, dep d ≤ n → Kin d e → Is H d v → Is H e w → EqR K H n v w (eqD d e)
  | .i a, .i b, _, _, n, _, _, h, k => by
    rw [of_i h, of_i k, eqD]
    exact EqR.int n a b
  | .l xs, .l ys, _, _, 0, hn, _, _, _ => absurd hn (by unfold dep; omega)
  | .l xs, .l ys, _, _, n + 1, hn, hk, h, k => by
    obtain ⟨a, vs, rfl, ha, ra⟩ := of_l h
    obtain ⟨b, ws, rfl, hb, rb⟩ := of_l k
    have hn' : deps xs ≤ n := by unfold dep at hn; omega
    have hk' : Kins xs ys := by unfold Kin at hk; exact hk
    have l1 := ra.length
    have l2 := rb.length
    rw [eqD]
    by_cases hl : xs.length = ys.length
    · rw [eqDs_all hl, ← l1]
      exact EqR.lists _ (SqL.of ha) (SqL.of hb) (by omega) fun j x y hx hy => Iss.eqr hn' hk' ra rb hx hy
    · rw [eqDs_len hl]
      exact EqR.lens (SqL.of ha) (SqL.of hb) (by omega)
  | .t xs, .t ys, _, _, 0, hn, _, _, _ => absurd hn (by unfold dep; omega)
  | .t xs, .t ys, _, _, n + 1, hn, hk, h, k => by
    obtain ⟨a, vs, rfl, ha, ra⟩ := of_t h
    obtain ⟨b, ws, rfl, hb, rb⟩ := of_t k
    have hn' : deps xs ≤ n := by unfold dep at hn; omega
    have hk' : Kins xs ys := by unfold Kin at hk; exact hk
    have l1 := ra.length
    have l2 := rb.length
    rw [eqD]
    have q := EqR.tuples (d := n) (fun j => eqD (xs.getD j (.i 0)) (ys.getD j (.i 0))) (SqT.of (K := K) ha) (SqT.of (K := K) hb) fun j x y hx hy => Iss.eqr hn' hk' ra rb hx hy
    by_cases hl : xs.length = ys.length
    · rw [eqDs_all hl]
      rw [l1, l2, ← hl, Nat.min_self] at q
      simpa using q
    · rw [eqDs_len hl]
      have z : (vs.length == ws.length) = false := by rw [l1, l2]; simpa using hl
      rw [z, Bool.and_false] at q
      exact q
  | .i _, .l _, _, _, _, _, hk, _, _ => by unfold Kin at hk; exact hk.elim
  | .i _, .t _, _, _, _, _, hk, _, _ => by unfold Kin at hk; exact hk.elim
  | .l _, .i _, _, _, _, _, hk, _, _ => by unfold Kin at hk; exact hk.elim
  | .l _, .t _, _, _, _, _, hk, _, _ => by unfold Kin at hk; exact hk.elim
  | .t _, .i _, _, _, _, _, hk, _, _ => by unfold Kin at hk; exact hk.elim
  | .t _, .l _, _, _, _, _, hk, _, _ => by unfold Kin at hk; exact hk.elim
theorem Iss.eqr {K : PySem.W.Frag} {H : Hp} : ∀ {xs ys : List D} {vs ws : List V} {n : Nat}, deps xs ≤ n → Kins xs ys → Iss H xs vs → Iss H ys ws → ∀ {j : Nat} {x y : V}, vs[j]? = some x → ws[j]? = some y →
    EqR K H n x y (eqD (xs.getD j (.i 0)) (ys.getD j (.i 0)))
  | [], _, _, _, _, _, _, h, _, _, _, _, e, _ => by rw [of_nil h] at e; simp at e
  | _ :: _, [], _, _, _, _, _, _, k, _, _, _, _, e => by rw [of_nil k] at e; simp at e
  | x :: xs, y :: ys, _, _, n, hn, hk, h, k, 0, u, w, e1, e2 => by
    obtain ⟨u', us, rfl, q, _⟩ := of_cons h
    obtain ⟨w', ws, rfl, q', _⟩ := of_cons k
    simp at e1 e2
    subst e1 e2
    have hk' : Kin x y ∧ Kins xs ys := by unfold Kins at hk; exact hk
    have hd : dep x ≤ n := by unfold deps at hn; omega
    exact Is.eqr (d := x) (e := y) hd hk'.1 q q'
  | x :: xs, y :: ys, _, _, n, hn, hk, h, k, j + 1, u, w, e1, e2 => by
    obtain ⟨u', us, rfl, _, r⟩ := of_cons h
    obtain ⟨w', ws, rfl, _, r'⟩ := of_cons k
    have hk' : Kin x y ∧ Kins xs ys := by unfold Kins at hk; exact hk
    have hd : deps xs ≤ n := by unfold deps at hn; omega
    have := Iss.eqr (K := K) hd hk'.2 r r' (j := j) (by simpa using e1) (by simpa using e2)
    simpa using this
end
/-! ### points -/
abbrev Pt := Int × Int
def pt (p : Pt) : D := .t [.i p.1, .i p.2]
/-! ### a list that grows -/
/-- without what stands at a -/
def hid (H : Hp) (a : Addr) : Hp := fun b => if b = a then none else H b
theorem hid_at {H : Hp} {a b : Addr} (h : b ≠ a) : hid H a b = H b := by unfold hid; rw [if_neg h]
theorem hid_same {H : Hp} {a : Addr} : Same (hid H a) H := fun b o e => by
  unfold hid at e
  split at e
  · cases e
  · exact e
theorem hid_mono {H H' : Hp} {a : Addr} (s : Same H H') : Same (hid H a) (hid H' a) := fun b o e => by
  unfold hid at e ⊢
  split at e
  · cases e
  · rename_i h
    rw [if_neg h]
    exact s b o e
end L2
/-! ### what is newly laid, told by what is true of it -/
namespace L2
open PySem PySem.Spec PyProof.Rows
section
variable {X : Cx} {es : List Expr} {t : TA} {pos : Pos}
def New (H : Hp) (o : HO) (Q : VK) : Prop := ∀ p H2, H p = none → Same H H2 → H2 p = some o → Q (.ref p) H2
theorem New.at {H : Hp} {o : HO} {Q : VK} (q : New H o Q) {p : Addr} (np : H p = none) : Q (.ref p) (upd H p o) := q p _ np (Same.new np) upd_same
def tTupN (t : TA) : TE := fun σ H Q => t σ H fun xs H1 => xs.length ≤ sizeLine ∧ New H1 (.tup xs) Q
def tLstN (t : TA) : TE := fun σ H Q => t σ H fun xs H1 => xs.length ≤ sizeLine ∧ New H1 (.lst xs) Q
theorem pe_tupN {x1} (h : PA X es t) : PE X (.Tuple es x1 pos) (tTupN t) := by
  intro pins s σ H Q I hq
  refine wpAny_Tuple_spliced (thn (h pos pins s σ H _ I hq) fun us s1 ⟨xs, H1, I1, r, z, q⟩ => ⟨by rw [← r.length]; exact z, ?_⟩)
  refine ⟨.ref s1.heap.objs.size, upd H1 s1.heap.objs.size (.tup xs), I1.laid (t' := s1.toks) (fun b u e => Heap.get?_push_of_some _ e) (Nat.le_refl _) ?_, rfl, q.at (I1.hok.fresh (Nat.le_refl _))⟩
  exact ⟨z, us, r, ⟨_, Heap.get?_push_size _ rfl, rfl, _, rfl⟩⟩
theorem pe_lstN (h : PA X es t) : PE X (.List es pos) (tLstN t) := by
  intro pins s σ H Q I hq
  refine wpAny_List_spliced (thn (h pos pins s σ H _ I hq) fun us s1 ⟨xs, H1, I1, r, z, q⟩ => ⟨by rw [← r.length]; exact z, ?_⟩)
  refine ⟨.ref s1.heap.objs.size, upd H1 s1.heap.objs.size (.lst xs), I1.laid (t' := s1.toks) (fun b u e => Heap.get?_push_of_some _ e) (Nat.le_refl _) ?_, rfl, q.at (I1.hok.fresh (Nat.le_refl _))⟩
  exact ⟨z, us, 0, r, Heap.get?_push_size _ rfl⟩
theorem OpR.imp {f : Value → Value → Sem Value} {r r' : R2} (h : OpR X f r) (k : ∀ x y H Q, r' x y H Q → r x y H Q) : OpR X f r' := fun pins s σ H x y v u Q I rx ry q => h pins s σ H x y v u Q I rx ry (k _ _ _ _ q)
theorem CallR.imp {f : Value} {r r' : List V → Hp → VK → Prop} (h : CallR X f r) (k : ∀ xs H Q, r' xs H Q → r xs H Q) : CallR X f r' := fun pins s σ H xs us Q I rs q => h pins s σ H xs us Q I rs (k _ _ _ q)
/-- a + b, two lists of data -/
theorem op_catN : OpR X (binaryOp .Add) (fun x y H Q => ∃ xs zs, Is H (.l xs) x ∧ Is H (.l zs) y ∧ xs.length + zs.length ≤ sizeLine ∧ ∀ p H2, H p = none → Same H H2 → Is H2 (.l (xs ++ zs)) (.ref p) → Q (.ref p) H2) :=
  op_cat.imp fun x y H Q ⟨xs, zs, hx, hz, hl, q⟩ => by
    obtain ⟨a, vs, rfl, ha, ra⟩ := of_l hx
    obtain ⟨b, ws, rfl, hb, rb⟩ := of_l hz
    exact ⟨a, b, vs, ws, rfl, rfl, ha, hb, by rw [ra.length, rb.length]; exact hl, fun p np => q p _ np (Same.new np) (is_l upd_same ((ra.append rb).mono (Same.new np)))⟩
theorem rep_one {α : Type} {x : α} : ∀ n : Nat, (List.replicate n [x]).flatten = List.replicate n x
  | 0 => rfl
  | n + 1 => by rw [List.replicate_succ, List.flatten_cons, rep_one n, List.replicate_succ]; rfl
/-- [x] * n -/
theorem op_repN : OpR X (binaryOp .Mult) (fun x y H Q => ∃ d n, Is H (.l [d]) x ∧ y = .int n ∧ -(2 ^ 63) ≤ n ∧ n < 2 ^ 63 ∧ n.toNat ≤ sizeLine ∧ ∀ p H2, H p = none → Same H H2 → Is H2 (.l (List.replicate n.toNat d)) (.ref p) → Q (.ref p) H2) :=
  op_rep.imp fun x y H Q ⟨d, n, hx, ey, h1, h2, hl, q⟩ => by
    obtain ⟨a, vs, rfl, ha, ra⟩ := of_l hx
    obtain ⟨u, us, rfl, hu, ru⟩ := of_cons ra
    rw [of_nil ru] at ha
    refine ⟨a, n, _, rfl, ey, ha, h1, h2, by rw [List.length_singleton, Nat.one_mul]; exact hl, fun p np => q p _ np (Same.new np) ?_⟩
    rw [rep_one]
    exact is_l upd_same ((Iss.rep hu _).mono (Same.new np))
/-- list(xs), xs a list of data -/
theorem call_list_ofN : CallR X (.type "list") (fun vs H Q => ∃ v xs, vs = [v] ∧ (Is H (.l xs) v ∨ Is H (.t xs) v) ∧ ∀ p H2, H p = none → Same H H2 → Is H2 (.l xs) (.ref p) → Q (.ref p) H2) :=
  call_list_of.imp fun vs H Q ⟨v, xs, ev, hx, q⟩ => by
    subst ev
    rcases hx with hx | hx
    · obtain ⟨a, ws, rfl, ha, ra⟩ := of_l hx
      exact ⟨a, ws, rfl, .inl (SqL.of ha), fun p np => q p _ np (Same.new np) (is_l upd_same (ra.mono (Same.new np)))⟩
    · obtain ⟨a, ws, rfl, ha, ra⟩ := of_t hx
      exact ⟨a, ws, rfl, .inr (SqT.of ha), fun p np => q p _ np (Same.new np) (is_l upd_same (ra.mono (Same.new np)))⟩
/-- tuple(xs), xs a list of data -/
theorem call_tuple_ofN : CallR X (.type "tuple") (fun vs H Q => ∃ v xs, vs = [v] ∧ Is H (.l xs) v ∧ ∀ p H2, H p = none → Same H H2 → Is H2 (.t xs) (.ref p) → Q (.ref p) H2) :=
  call_tuple_of.imp fun vs H Q ⟨v, xs, ev, hx, q⟩ => by
    subst ev
    obtain ⟨a, ws, rfl, ha, ra⟩ := of_l hx
    exact ⟨a, ws, rfl, .inl ⟨SqL.of ha, fun p np => q p _ np (Same.new np) (is_t upd_same (ra.mono (Same.new np)))⟩⟩
/-- xs[i], a datum's item -/
theorem ix_D {α : Type} {xs : List α} {i : Int} {j : Nat} {x : α} (e : i = j) (h : xs[j]? = some x) : atI xs i = some x := by rw [e]; exact atI_nat h
theorem Iss.atI {H : Hp} {xs : List D} {vs : List V} {i : Int} {x : D} (h : Iss H xs vs) (e : L2.atI xs i = some x) : ∃ u, L2.atI vs i = some u ∧ Is H x u := by
  unfold L2.atI at e ⊢
  rw [h.length]
  cases q : ixN xs.length i with
  | none => rw [q] at e; cases e
  | some j =>
    rw [q] at e
    obtain ⟨u, e1, k⟩ := h.get (j := j) e
    exact ⟨u, e1, k⟩
theorem ix_listN : IxR X (fun x y H Q => ∃ xs i d, Is H (.l xs) x ∧ y = .int i ∧ atI xs i = some d ∧ ∀ u, Is H d u → Q u H) := by
  intro value slice pins s σ H x y v u Q I rx ry h hs
  obtain ⟨xs, i, d, hx, ey, e, q⟩ := h
  obtain ⟨a, vs, rfl, ha, ra⟩ := of_l hx
  obtain ⟨z, ez, hz⟩ := ra.atI e
  exact ix_list value slice pins s σ H (.ref a) y v u Q I rx ry ⟨a, vs, i, z, rfl, ey, SqL.of ha, ez, q z hz⟩ hs
theorem ix_tupN : IxR X (fun x y H Q => ∃ xs i d, Is H (.t xs) x ∧ y = .int i ∧ atI xs i = some d ∧ ∀ u, Is H d u → Q u H) := by
  intro value slice pins s σ H x y v u Q I rx ry h hs
  obtain ⟨xs, i, d, hx, ey, e, q⟩ := h
  obtain ⟨a, vs, rfl, ha, ra⟩ := of_t hx
  obtain ⟨z, ez, hz⟩ := ra.atI e
  exact ix_tup value slice pins s σ H (.ref a) y v u Q I rx ry ⟨a, vs, i, z, rfl, ey, SqT.of ha, ez, q z hz⟩ hs
/-- len(xs) -/
theorem call_lenN : CallR X (.builtin "len") (fun vs H Q => ∃ v xs, vs = [v] ∧ (Is H (.l xs) v ∨ Is H (.t xs) v) ∧ Q (.int xs.length) H) :=
  call_len_seq.imp fun vs H Q ⟨v, xs, ev, hx, q⟩ => by
    subst ev
    rcases hx with hx | hx
    · obtain ⟨a, ws, rfl, ha, ra⟩ := of_l hx
      exact ⟨a, ws, rfl, .inl (SqL.of ha), by rw [ra.length]; exact q⟩
    · obtain ⟨a, ws, rfl, ha, ra⟩ := of_t hx
      exact ⟨a, ws, rfl, .inr (SqT.of ha), by rw [ra.length]; exact q⟩
end
end L2
/-! ### exceptions of own classes: raised in a def, passed on, caught -/
namespace L2
open PySem PySem.Spec PyProof.Rows
section
variable {P : Program} {w : World} {H : Hp} {h : Heap} {a : Addr} {o : HO}
end
section
variable {X : Cx} {pins : List (Addr × Obj)} {σ : St} {H H' : Hp} {s s' : Shared} {B h' : Heap} {l : List Env}
end
/-! ### raise C(e, ..) -/
section
variable {X : Cx} {pos np cpos : Pos} {x : Str} {C : Addr} {E : XK} {e : Expr} {es : List Expr} {t : TA}
abbrev bmV : List Value := [.type "ValueError", .type "Exception", .type "BaseException", .type "object"]
end

/-! ### f-strings of ints -/
section
variable {X : Cx} {pos : Pos} {e v : Expr} {es : List Expr} {te : TE}
end

/-! ### f(e, ..), f a name that holds a def -/
section
variable {X : Cx} {CX : CXT} {ps : List Str} {sp : Sp} {E : XK} {x : Str} {p pos : Pos} {e : Expr} {es : List Expr} {t : TA} {i : Nat}
end
end L2
/-! ### isinstance of an exception that is held -/
namespace L2
open PySem PySem.Calls PyProof.Rows PySem.W Builtin Builtin.ObjectAttr Builtin.Getset_descriptor
/-- what is known of a class of exceptions -/
structure XC (K : Frag) (C : Addr) : Prop where
  cl : (clsIn K C).isSome = true
  ga : findIn K (.ref C) "__getattribute__" = some (some (.builtin "BaseException.__getattribute__"))
  gt : findIn K (.ref C) "__getattr__" = some none
  ca : findIn K (.ref C) "__class__" = some (some (.builtin "object.__class__"))
  gn : specialIn K (.builtin "object.__class__") "__get__" = some (some (.builtin "getset_descriptor.__get__"))
  tk : takesIn K (.builtin "object.__class__") = some true
  ob : mroIn K C (.type "object") = some true
  be : mroIn K C (.type "BaseException") = some true
section
variable {prog : Program} {w : World} {A : Around} {E : Value → Shared → Prop} {K : Frag} {x C : Addr} {h : Heap} {g : Array GenState} {d : Drawn} {t : Nat} {os : OsState}
end
section
variable {X : Cx}
end
end L2
/-! ### try: .. except C as n: .. -/
namespace L2
open PySem PySem.Spec PyProof.Rows PySem.W
section
variable {X : Cx} {pins pn : List (Addr × Obj)} {σ : St} {H H' : Hp} {s s' : Shared} {z : Value → Shared → Prop} {e : Addr}
end
end L2
/-! ### for x in range(hi, lo, -1) -/
namespace L2
open PySem PySem.Spec PyProof.Rows
section
variable {X : Cx} {tg : Expr}
end
end L2
/-! ### any thing as a degree, and its bounds -/
namespace L2
open PySem PySem.Spec PyProof.Rows
def Thing (H : Hp) (v : V) : Prop := (∃ i, v = .int i) ∨ (∃ b, v = .bl b) ∨ v = .non ∨ (∃ x, v = .str x) ∨ (∃ a xs, v = .ref a ∧ H a = some (.lst xs)) ∨ (∃ a xs, v = .ref a ∧ H a = some (.tup xs))
def isI (v : V) : Bool := match v with
  | .int _ => true
  | _ => false
def Within (lo hi : Int) (v : V) : Prop := ∃ i, v = .int i ∧ lo ≤ i ∧ i ≤ hi
theorem kit_none_int {K : PySem.W.Frag} : PySem.W.kitOne K (.type "NoneType") (.type "int") = some false := kit_of (by decide +kernel) (by decide +kernel) (by decide +kernel)
theorem kit_str_int {K : PySem.W.Frag} : PySem.W.kitOne K (.type "str") (.type "int") = some false := kit_of (by decide +kernel) (by decide +kernel) (by decide +kernel)
theorem kit_list_int {K : PySem.W.Frag} : PySem.W.kitOne K (.type "list") (.type "int") = some false := kit_of (by decide +kernel) (by decide +kernel) (by decide +kernel)
theorem kit_tuple_int {K : PySem.W.Frag} : PySem.W.kitOne K (.type "tuple") (.type "int") = some false := kit_of (by decide +kernel) (by decide +kernel) (by decide +kernel)
def sp_whole : Sp := fun vs H Q _ => ∃ v, vs = [v] ∧ Thing H v ∧ Q (.bl (isI v)) H
end L2
/-! ### for x, y in zip(xs, ys) -/
namespace L2
open PySem PySem.Spec PyProof.Rows
section
variable {X : Cx} {pins : List (Addr × Obj)} {σ : St} {H : Hp} {s : Shared} {h' : Heap} {ch : List Addr} {t' : Nat}
theorem FpOk.chs (hf : ∀ b ∈ ch, FpOk X pins H b) : ∀ b ∈ ch, (b ∈ X.ex ∨ X.s₀.heap.objs.size ≤ b) ∧ b ≠ X.env.locals ∧ (∀ x c, X.env.cells.lookup x = some c → c ≠ b) ∧ ∀ p ∈ X.pn ++ pins, p.1 ≠ b := fun b hb => by
  obtain ⟨_, a2, _, a4, a5, a6⟩ := hf b hb
  exact ⟨a4, a2, a5, a6⟩
/-- records of ours have turned -/
theorem Inv.turnAll (I : Inv X pins σ H s) (hf : ∀ b ∈ ch, FpOk X pins H b) (k : ∀ b o, b ∉ ch → s.heap.get? b = some o → h'.get? b = some o) : Inv X pins σ H { s with heap := h', toks := t' } := by
  have nin : ∀ {b u}, H b = some u → b ∉ ch := fun e z => by rw [(hf _ z).1] at e; cases e
  refine I.step (g' := s.gens) (d' := s.drawn) (ch := ch) (FpOk.chs hf) (fun b o _ _ c e _ => k b o c e) (fun b o _ _ c e _ => ⟨o.slots, k b o c e⟩) (fun _ _ _ _ n => n) (fun b o c e => ⟨o, k b o c e⟩) (fun _ _ e => e) (fun _ _ _ e => e) (fun b ps e => ⟨#[], by rw [e]; simp⟩) (fun m hm => ?_) (fun b u e => ?_) I.bare
  · obtain ⟨o, es, ep, ho, r⟩ := hm
    exact ⟨o, es, ep, k _ o (fun z => (hf _ z).2.1 rfl) ho, r⟩
  · refine (I.hok b u e).stay (fun c v hc q => k c v ?_ q) (fun _ q => q) fun _ _ q => q
    rcases hc with z | z
    · rw [z]; exact nin e
    · exact nin z
/-- .. and a new object is laid -/
theorem Inv.turnNew {o : HO} (I : Inv X pins σ H s) (hf : ∀ b ∈ ch, FpOk X pins H b) (k : ∀ b ob, b ∉ ch → s.heap.get? b = some ob → h'.get? b = some ob) (new : ObjOk X.prog X.w (upd H s.heap.objs.size o) h' s.heap.objs.size o) :
    Inv X pins σ (upd H s.heap.objs.size o) { s with heap := h', toks := t' } := by
  have nf : H s.heap.objs.size = none := I.hok.fresh (Nat.le_refl _)
  have nin : ∀ {b u}, H b = some u → b ∉ ch := fun e z => by rw [(hf _ z).1] at e; cases e
  refine I.step (g' := s.gens) (d' := s.drawn) (ch := ch) (FpOk.chs hf) (fun b o _ _ c e _ => k b o c e) (fun b o _ _ c e _ => ⟨o.slots, k b o c e⟩) (fun b ob c e n => ?_) (fun b o c e => ⟨o, k b o c e⟩) (fun b ys e => ?_) (fun b o u e => ?_) (fun b ps e => ⟨#[], ?_⟩) (fun m hm => ?_) (fun b u e => ?_) I.bare
  · rw [upd_ne (Nat.ne_of_lt (Heap.lt_size e))]; exact n
  · rw [upd_ne (ne_of_none e nf)]; exact e
  · rw [upd_ne (ne_of_none e nf)]; exact e
  · rw [upd_ne (ne_of_none e nf), e]; simp
  · obtain ⟨o, es, ep, ho, r⟩ := hm
    exact ⟨o, es, ep, k _ o (fun z => (hf _ z).2.1 rfl) ho, r⟩
  · by_cases hb : b = s.heap.objs.size
    · subst hb
      rw [upd_same] at e
      cases e
      exact new
    · rw [upd_ne hb] at e
      refine (I.hok b u e).stay (fun c v hc q => k c v ?_ q) (fun c q => ?_) fun c ys q => ?_
      · rcases hc with z | z
        · rw [z]; exact nin e
        · exact nin z
      · rw [upd_ne (ne_of_none q nf)]; exact q
      · rw [upd_ne (ne_of_none q nf)]; exact q
end
section
variable {X : Cx} {elts : List Expr} {k : Nat} {tpos p pos : Pos} {e f : Expr} {te tf : TE}
end
/-- the target x, y -/
theorem ownG_pair {K : PySem.W.Frag} : OwnG 2 (gTup K 2 (gCons (gName 0) (gCons (gName 1) gNil))) := by
  intro v σ H Q ⟨a, xs, e, hq, hl, x, r, ex, y, r2, er, en, q⟩
  refine ⟨a, xs, e, hq, hl, x, r, ex, y, r2, er, en, q, ?_, fun i hi => ?_⟩
  · rw [List.length_set, List.length_set]
  · rw [List.getElem?_set_ne (by omega), List.getElem?_set_ne (by omega)]
theorem mono_pair {K : PySem.W.Frag} : ∀ (σ : St) (H : Hp) (R R' : St → Hp → Prop) (x : V), (∀ σ' H', R σ' H' → R' σ' H') → gTup K 2 (gCons (gName 0) (gCons (gName 1) gNil)) x σ H R → gTup K 2 (gCons (gName 0) (gCons (gName 1) gNil)) x σ H R' :=
  fun σ H R R' v k ⟨a, xs, e, hq, hl, x, r, ex, y, r2, er, en, q⟩ => ⟨a, xs, e, hq, hl, x, r, ex, y, r2, er, en, k _ _ q⟩
theorem pg_tupK {X : Cx} {es : List Expr} {k : Nat} {pos : Pos} {t : TGs} {n : Nat} {K : PySem.W.Frag} (hK : X.K = K) (hc : X.calm = true) (h : PGs X es t)
    (hn : (assignEach es X.env).length = n := by rfl) (hst : (assignEach es X.env).findIdx? (·.1) = none := by rfl) : PG X (.Tuple es k pos) (gTup K n t) := hK ▸ pg_tup hc h hn hst
end L2
/-! ### min, max of a list of ints; all, any of a list of truths -/
namespace L2
open PySem PySem.Spec PyProof.Rows
section
variable {X : Cx}
/-- x *= e, ints -/
def ipM : TIp := fun x y H Q => ∃ i j, x = .int i ∧ y = .int j ∧ CMul i j ∧ Q (.int (i * j)) H
theorem ip_mult : PIp X .Mult ipM := by
  intro pins s σ H x y v u Q I r1 r2 h
  obtain ⟨i, j, e1, e2, c, q⟩ := h
  subst e1; subst e2
  obtain ⟨t, rfl⟩ := r1
  obtain ⟨t', rfl⟩ := r2
  exact imul_int ⟨.int _, H, I.tok _, ⟨_, rfl⟩, q⟩ c.ok
end
end L2
/-! ### list(range(a, b)) -/
namespace L2
open PySem PySem.Spec PyProof.Rows
section
variable {X : Cx} {a b : Expr} {ta : TA} {p1 p2 p3 pos : Pos}
end
end L2
/-! ### tuples of ints -/
namespace L2
open PySem PySem.Spec PyProof.Rows
/-- a tuple of ints -/
def tI (xs : List Int) : D := .t (xs.map .i)
theorem iss_ints {H : Hp} : ∀ {xs : List Int} {vs : List V}, Iss H (xs.map .i) vs → vs = xs.map V.int
  | [], vs, h => h
  | x :: xs, vs, h => by
    obtain ⟨u, us, rfl, h1, h2⟩ := h
    rw [of_i h1, iss_ints h2]
    rfl
theorem ints_iss {H : Hp} : ∀ (xs : List Int), Iss H (xs.map .i) (xs.map V.int)
  | [] => rfl
  | x :: xs => ⟨_, _, rfl, is_i, ints_iss xs⟩
theorem of_tI {H : Hp} {xs : List Int} {v : V} (h : Is H (tI xs) v) : ∃ a, v = .ref a ∧ H a = some (.tup (xs.map V.int)) := by
  obtain ⟨a, vs, rfl, ha, hi⟩ := of_t h
  rw [iss_ints hi] at ha
  exact ⟨a, rfl, ha⟩
theorem is_tI {H : Hp} {xs : List Int} {a : Addr} (h : H a = some (.tup (xs.map V.int))) : Is H (tI xs) (.ref a) := is_t h (ints_iss xs)
end L2
/-! ### a dict of the module's own, ints by ints, read -/
namespace L2
open PySem PySem.Spec PyProof.Rows
def intIs (v : Value) (k : Int) : Bool := match v with
  | .int i _ => decide (i = k)
  | _ => false
def entOk : List DictEntry → List (Int × Int) → Bool
  | [], [] => true
  | e :: es, p :: kvs => intIs e.key p.1 && decide (e.hash = hashInt p.1) && intIs e.val p.2 && entOk es kvs
  | _, _ => false
def objOk (o : Obj) (kvs : List (Int × Int)) : Bool := match o.cls, o.dict, o.data with
  | .type c, none, .dict es _ => c == "dict" && o.slots.isEmpty && entOk es.toList kvs
  | _, _, _ => false
/-- the dict at a, of the module's top, holds these -/
def dtabIn (K : PySem.W.Frag) (a : Addr) (kvs : List (Int × Int)) : Bool := match K.lookup a with
  | some o => objOk o kvs
  | none => false
theorem intIs_of {v : Value} {k : Int} (h : intIs v k = true) : ∃ t, v = .int k t := by
  unfold intIs at h
  split at h
  · rename_i i t
    exact ⟨t, by rw [of_decide_eq_true h]⟩
  · cases h
theorem entOk_cons {e : DictEntry} {es : List DictEntry} {p : Int × Int} {kvs : List (Int × Int)} (h : entOk (e :: es) (p :: kvs) = true) : (∃ t, e.key = .int p.1 t) ∧ e.hash = hashInt p.1 ∧ (∃ t, e.val = .int p.2 t) ∧ entOk es kvs = true := by
  unfold entOk at h
  rw [Bool.and_eq_true, Bool.and_eq_true, Bool.and_eq_true] at h
  exact ⟨intIs_of h.1.1.1, of_decide_eq_true h.1.1.2, intIs_of h.1.2, h.2⟩
theorem entOk_keys : ∀ {es : List DictEntry} {kvs : List (Int × Int)}, entOk es kvs = true → ∀ e ∈ es, ∃ k, Value.isInt k e.key = true ∧ e.hash = hashInt k
  | [], _, _, e, he => nomatch he
  | e :: es, [], h, _, _ => by unfold entOk at h; cases h
  | e :: es, p :: kvs, h, e', he => by
    obtain ⟨⟨t, h1⟩, h2, _, h4⟩ := entOk_cons h
    rcases List.mem_cons.mp he with rfl | he
    · exact ⟨p.1, by rw [h1]; simp [Value.isInt], h2⟩
    · exact entOk_keys h4 e' he
theorem entOk_find {k v : Int} : ∀ {es : List DictEntry} {kvs : List (Int × Int)}, entOk es kvs = true → kvs.lookup k = some v → ∃ t, (es.find? fun e => Value.isInt k e.key).map (·.val) = some (.int v t)
  | _, [], _, hv => nomatch hv
  | [], p :: kvs, h, _ => by unfold entOk at h; cases h
  | e :: es, p :: kvs, h, hv => by
    obtain ⟨⟨t, h1⟩, h2, ⟨u, h3⟩, h4⟩ := entOk_cons h
    rw [List.lookup_cons] at hv
    rw [List.find?_cons]
    by_cases q : k = p.1
    · have b : (k == p.1) = true := by simp [q]
      rw [b] at hv
      have hv' : p.2 = v := Option.some.inj hv
      have i : Value.isInt k e.key = true := by rw [h1, q]; simp [Value.isInt]
      rw [i]
      exact ⟨u, by rw [← hv', ← h3]; rfl⟩
    · have b : (k == p.1) = false := by simp [q]
      rw [b] at hv
      have i : Value.isInt k e.key = false := by rw [h1]; simp [Value.isInt]; exact fun z => q z.symm
      rw [i]
      exact entOk_find h4 hv
def tDGetM (K : PySem.W.Frag) (td ty : TE) : TE := fun σ H Q => td σ H fun x H1 => ty σ H1 fun y H2 => ∃ a kvs k v, x = .ref a ∧ dtabIn K a kvs = true ∧ y = .int k ∧ kvs.lookup k = some v ∧ Q (.int v) H2
theorem pe_dgetM {X : Cx} {o i : Expr} {pos : Pos} {td ty : TE} (ho : PE X o td) (hi : PE X i ty) (hs : NoSl i) : PE X (.Subscript o i pos) (tDGetM X.K td ty) := by
  intro pins s σ H Q I h
  refine subD_of PySem.F.slot_dict_getitem.lookup hs (thn (ho pins s σ H _ I h) fun u s1 ⟨x, H1, I1, rx, q1⟩ => thn (hi pins s1 σ H1 _ I1 q1) fun iv s2 ⟨y, H2, I2, ry, a, kvs, k, v, ex, hd, ey, hv, q2⟩ => ?_)
  subst ex ey
  obtain rfl : u = Value.ref a := rx
  obtain ⟨t, rfl⟩ := ry
  unfold dtabIn at hd
  split at hd
  · rename_i ob hob
    have hg := I2.kIn a ob hob
    unfold objOk at hd
    split at hd
    · rename_i c es ep hc hdi hda
      rw [Bool.and_eq_true, Bool.and_eq_true] at hd
      obtain ⟨⟨d1, d2⟩, d3⟩ := hd
      have hc' : ob.cls = .type "dict" := by rw [hc, eq_of_beq d1]
      obtain ⟨t', ht⟩ := entOk_find d3 hv
      have mp : s2.heap.MapOf (intKind X.prog X.w) a (findBy Value.isInt es) := ⟨ob, es, ep, hg, ⟨hc', hdi, Array.isEmpty_iff.mp d2⟩, hda, fun e he => entOk_keys d3 e (by simpa using he), fun _ => rfl⟩
      refine ⟨⟨ob, hg, hc'⟩, wpAny_getItem_of (knd := intKind X.prog X.w) (k := k) (by simp [intKind, Value.isInt]) mp (v := .int v t') ?_ ⟨.int v, H2, I2.tok _, ⟨_, rfl⟩, q2⟩⟩
      show findBy Value.isInt es k = _
      unfold findBy
      obtain ⟨l⟩ := es
      simpa using ht
    · cases hd
  · cases hd
end L2
/-! ### x in xs, xs.index(x), by what == tells of each item -/
namespace L2
open PySem PySem.Spec PyProof.Rows
section
variable {X : Cx} {pins : List (Addr × Obj)} {σ : St} {H : Hp} {s : Shared}
end
section
variable {X : Cx}
end
end L2
/-! ### a comprehension over a tuple; isinstance in one -/
namespace L2
open PySem PySem.Spec PyProof.Rows
section
variable {X : Cx} {K : PySem.W.Frag}
end
end L2
/-! ### t[lo:hi] of a tuple, the whole of it too -/
namespace HT
open PySem PySem.Spec PyProof.Rows
section
variable {prog : Program} {w : World} {A : Around} {E : Value → Shared → Prop} {s : Shared}
theorem getItem_tuple_all {t sl : Addr} {items : Array Value} {vl vu : Value} {lo hi : Option Int} {Q : Value → Shared → Prop} (ht : IsTup s.heap t items) (hs : s.heap.IsSliceOf sl vl vu .none) (pl : IsPart vl lo) (pu : IsPart vu hi)
    (hw : sIx items.size 0 lo = 0 ∧ sIx items.size items.size hi = items.size) (h : Q (.ref t) s) : wpAny (model prog w) A (getItem (.ref t) (.ref sl)) Q E s := by
  obtain ⟨os, hos, hcs, hds⟩ := id hs
  have hTs : s.TypeIs (.ref sl) "slice" := ⟨os, hos, hcs⟩
  unfold getItem
  try with_reducible refine wpAny_holding ?_
  first | refine wpAny_bind (wpAny_pure ?_) | skip
  refine wpAny_bind (wpAny_sequenceKey ht.typeIs (by decide) ?_)
  refine wpAny_bind (wpAny_callSpecial?_slot (name := Str.ofString "__getitem__") ht.typeIs PyProof.Rows.slot_tuple_getitem
    (wpAny_call_entry PyProof.Rows.slot_tuple_getitem ht.typeIs entry_tuple_getitem ?_ (args_tuple_getitem _ _)))
  show wpAny _ _ (Builtin.Tuple.tupleItemsOf (.ref t) >>= _) _ _ s
  refine wpAny_bind (tupleItemsOf_ ht ?_)
  refine wpAny_bind (wpAny_typeOf hTs ?_)
  rw [if_pos (by decide)]
  refine wpAny_bind (sliceApplied_gen hs pl pu ?_)
  have hyes : (((sIx items.size 0 lo : Nat) : Int) == 0 && (1 : Int) == 1 && (sIx items.size items.size hi - sIx items.size 0 lo) == items.size) = true := by
    rw [hw.1, hw.2]
    simp
  show wpAny _ _ (if (((sIx items.size 0 lo : Nat) : Int) == 0 && (1 : Int) == 1 && (sIx items.size items.size hi - sIx items.size 0 lo) == items.size) = true then _ else _) _ _ s
  rw [if_pos hyes]
  unfold Builtin.Tuple.tupleIsExact
  refine wpAny_bind (wpAny_bind (wpAny_typeOf ht.typeIs (wpAny_pure ?_)))
  rw [if_pos (by decide)]
  refine wpAny_bind (wpAny_rule ?_)
  exact wpAny_pure ⟨_, rfl, wpAny_pure h⟩
end
end HT
namespace L2
open PySem PySem.Spec PyProof.Rows
section
variable {X : Cx}
/-- t[lo:hi], the whole of it being t itself -/
def rSlA (K : PySem.W.Frag) : V → Option Int → Option Int → Hp → VK → Prop := fun x lo hi H Q => ∃ a xs, x = .ref a ∧ SqT K H a xs ∧
  ((HT.sIx xs.length 0 lo = 0 ∧ HT.sIx xs.length xs.length hi = xs.length) → Q (.ref a) H) ∧ (¬ (HT.sIx xs.length 0 lo = 0 ∧ HT.sIx xs.length xs.length hi = xs.length) → ∀ p, H p = none → Q (.ref p) (upd H p (.tup (cutV xs lo hi))))
theorem sl_tupA : SlR X (rSlA X.K) := by
  intro pins s σ H x v vl vu lo hi sl Q I rx hs pl pu h
  obtain ⟨a, xs, rfl, hx, q1, q2⟩ := h
  by_cases hw : HT.sIx xs.length 0 lo = 0 ∧ HT.sIx xs.length xs.length hi = xs.length
  · cases rx
    obtain ⟨its, r, ht, hz⟩ := I.tuple hx
    have hlen : its.toArray.size = xs.length := by rw [List.size_toArray]; exact r.length.symm
    refine ⟨"tuple", _, PyProof.Rows.slot_tuple_getitem.lookup, ht.typeIs, ?_⟩
    exact HT.getItem_tuple_all ht hs pl pu (by rw [hlen]; exact hw) ⟨.ref a, H, I, rfl, q1 hw⟩
  · exact sl_tup pins s σ H _ v vl vu lo hi sl Q I rx hs pl pu ⟨a, xs, rfl, hx, hw, q2 hw⟩
end
end L2
/-! ### dicts keyed by tuples: a display of one pair, the walk over the keys, the sum of the values -/
namespace L2
open PySem PySem.Spec PyProof.Rows PySem.W
section
variable {prog : Program} {w : World} {A : Around} {E : Value → Shared → Prop} {s : Shared}
end
section
variable {prog : Program} {w : World} {A : Around} {E : Value → Shared → Prop} {s : Shared}
end
section
variable {X : Cx} {tg : Expr}
end
end L2
/-! ### tuples cut and joined, told by contents; what keeps lists and tuples -/
namespace L2
open PySem PySem.Spec PyProof.Rows
section
variable {X : Cx}
theorem op_catA : OpR X (binaryOp .Add) (fun x y H Q => ∃ xs ys, Is H (.t xs) x ∧ Is H (.t ys) y ∧ xs.length + ys.length ≤ sizeLine ∧ ∀ v H2, Same H H2 → Is H2 (.t (xs ++ ys)) v → Q v H2) := by
  intro pins s σ H x y v u Q I rx ry h
  obtain ⟨xs, ys, hx, hy, hz, q⟩ := h
  obtain ⟨a, vs, rfl, ha, ra⟩ := of_t hx
  obtain ⟨b, ws, rfl, hb, rb⟩ := of_t hy
  have l1 := ra.length
  have l2 := rb.length
  by_cases h1 : vs = []
  · subst h1
    have hx0 : xs = [] := List.length_eq_zero_iff.mp (by rw [← l1]; rfl)
    subst hx0
    cases rx
    cases ry
    obtain ⟨its, r1, p1, _⟩ := I.tuple (SqT.of (K := X.K) ha)
    obtain ⟨its2, r2, p2, _⟩ := I.tuple (SqT.of (K := X.K) hb)
    cases r1
    obtain ⟨⟨cls, dd, data, sl⟩, ho, hc, n, hd⟩ := p1
    obtain ⟨⟨cls2, dd2, data2, sl2⟩, ho2, hc2, n2, hd2⟩ := p2
    simp only at hc hd hc2 hd2
    subst hc hd hc2 hd2
    exact concat_meets ⟨_, ho, rfl⟩ ⟨_, ho2, rfl⟩ noFill_tuple_add seq_tuple_add PySem.F.slot_tuple_add PySem.F.entry_tuple_add (PySem.F.args_tuple_add_2 _ _) (tuple_addW0 a b _ _ n n2 dd dd2 sl sl2 (by simp)) ⟨ho, ho2, ⟨.ref b, H, I, rfl, q _ H (Same.refl H) hy⟩⟩
  · refine op_catT pins s σ H (.ref a) (.ref b) v u Q I rx ry ⟨a, b, vs, ws, rfl, rfl, SqT.of ha, SqT.of hb, h1, by omega, fun e => ?_, fun _ p np => ?_⟩
    · have : ys = [] := List.length_eq_zero_iff.mp (by rw [← l2, e]; rfl)
      subst this
      exact q _ H (Same.refl H) (by rw [List.append_nil]; exact hx)
    · exact q _ _ (Same.new np) (is_t upd_same ((ra.append rb).mono (Same.new np)))
theorem sl_tupN : SlR X (fun x lo hi H Q => ∃ xs xs', Is H (.t xs) x ∧ (∀ (H' : Hp) (vs : List V), Iss H' xs vs → Iss H' xs' (cutV vs lo hi)) ∧ (∀ vs : List V, vs.length = xs.length → (HT.sIx vs.length 0 lo = 0 ∧ HT.sIx vs.length vs.length hi = vs.length) → xs' = xs) ∧ ∀ v H2, Same H H2 → Is H2 (.t xs') v → Q v H2) := by
  intro pins s σ H x v vl vu lo hi sl Q I rx hs pl pu h
  obtain ⟨xs, xs', hx, hc, hw, q⟩ := h
  obtain ⟨a, vs, rfl, ha, ra⟩ := of_t hx
  refine sl_tupA pins s σ H (.ref a) v vl vu lo hi sl Q I rx hs pl pu ⟨a, vs, rfl, SqT.of ha, fun e => ?_, fun e p np => ?_⟩
  · have := hw vs ra.length e
    subst this
    exact q _ H (Same.refl H) hx
  · exact q _ _ (Same.new np) (is_t upd_same ((hc _ _ ra).mono (Same.new np)))
end
/-- the lists and the tuples stay -/
def LTS (H H' : Hp) : Prop := (∀ b xs, H b = some (.lst xs) → H' b = some (.lst xs)) ∧ ∀ b xs, H b = some (.tup xs) → H' b = some (.tup xs)
mutual
theorem Is.lts {H H' : Hp} (s : LTS H H') : ∀ {d : D} {v : V}, Is H d v → Is H' d v
  | .i _, _, h => by rw [of_i h]; exact is_i
  | .l xs, _, h => by
    obtain ⟨a, vs, e, q, r⟩ := of_l h
    rw [e]
    exact is_l (s.1 _ _ q) (Iss.lts s r)
  | .t xs, _, h => by
    obtain ⟨a, vs, e, q, r⟩ := of_t h
    rw [e]
    exact is_t (s.2 _ _ q) (Iss.lts s r)
theorem Iss.lts {H H' : Hp} (s : LTS H H') : ∀ {xs : List D} {vs : List V}, Iss H xs vs → Iss H' xs vs
  | [], _, h => by rw [of_nil h]; exact iss_nil
  | x :: xs, _, h => by
    obtain ⟨u, us, e, q, r⟩ := of_cons h
    rw [e]
    exact iss_cons (Is.lts s q) (Iss.lts s r)
end
end L2
/-! ### tuples of tuples as keys of a dict -/
namespace L2
open PySem PySem.Spec PyProof.Rows PySem.W
section
variable {prog : Program} {w : World} {K : Type} [DecidableEq K] {knd : KeyKind prog w K}
variable {A : Around} {E : Value → Shared → Prop} {s : Shared}
theorem quiet_tuple {ks : List K} {a : Addr} {n : Nat} {Q : Bool → Shared → Prop} (hk : IsTupleKey knd s.heap ks a) (h : Q true s) : wpAny (model prog w) A (eqIsQuiet (n + 1) (.ref a)) Q E s := by
  have hT := hk.typeIs
  obtain ⟨o, items, n, ho, _, hd, hi⟩ := hk
  unfold eqIsQuiet
  refine wpAny_bind (wpAny_specialOf hT F.slot_tuple_eq.lookup ?_)
  show wpAny _ _ (isInstance (.ref a) (.type "tuple") >>= _) _ _ s
  refine wpAny_bind (wpAny_isInstance hT isSubtype_tuple_tuple ?_)
  simp only [Bool.not_true, Bool.false_eq_true, if_false]
  refine wpAny_bind (wpAny_seqItems ho hd ?_)
  refine wpAny_bind ?_
  show wpAny _ _ (forIn items _ _) _ _ s
  rw [← Array.forIn_toList]
  refine wpAny_forIn_list _ (fun rest r s' => r.1 = none ∧ s' = s ∧ ∀ v ∈ rest, carriedByValue v = true) _ ?_ ?_ _ _ ⟨rfl, rfl, hi.byValue⟩
  · rintro v rest r s' ⟨hr, rfl, hall⟩
    rw [eqIsQuiet_byValue _ (hall v List.mem_cons_self)]
    refine wpAny_bind (wpAny_pure ?_)
    simp only [Bool.not_true, Bool.false_eq_true, if_false]
    exact wpAny_pure ⟨rfl, rfl, fun u hu' => hall u (List.mem_cons_of_mem _ hu')⟩
  · rintro ⟨r1, r2⟩ s' ⟨hr, rfl, _⟩
    simp only at hr
    subst hr
    exact wpAny_pure h
end
end L2
/-! ### dicts keyed by tuples of tuples of ints: known to the heap by .ext -/
namespace L2
open PySem PySem.Spec PyProof.Rows PySem.W
theorem hu2_of {A : Around} {k : Nat} (hr : Room k A) : A.units + 2 < cLine := by have := hr.un; omega
section
variable {P : Program} {w : World} {H : Hp} {h : Heap} {a : Addr}
theorem ints_are : ∀ {ks : List Int} {us : List Value}, Vals (ks.map V.int) us → ItemsAre (intKind P w) ks us
  | [], _, r => by rw [List.map_nil] at r; cases r; exact .nil
  | k :: ks, _, r => by
    rw [List.map_cons] at r
    cases r with
    | cons h t =>
      obtain ⟨t', rfl⟩ := h
      exact .cons (show Value.isInt k (.int k t') = true by simp [Value.isInt]) (ints_are t)
theorem key_tI {ks : List Int} (ok : HOk P w H h) (e : H a = some (.tup (ks.map V.int))) : IsTupleKey (intKind P w) h ks a := by
  obtain ⟨_, its, r, o, h1, h2, n, h3⟩ := (show ObjOk P w H h a (.tup (ks.map V.int)) from ok a _ e)
  exact ⟨o, its.toArray, n, h1, h2, h3, by simpa using ints_are r⟩
end
section
variable {X : Cx} {pins : List (Addr × Obj)} {σ : St} {H : Hp} {s : Shared} {a b : Addr} {v : V} {r : Value} {A : Around} {E : Value → Shared → Prop} {kvs : List (List (List Int) × V)} {ks : List (List Int)}
end
section
variable {X : Cx} {o i e f value ek ev : Expr} {pos pos' apos cpos : Pos} {td ty tv tx tk : TE}
end
end L2
/-! ### len(d) and list(d) of a dict keyed by tuples of tuples -/
namespace L2
open PySem PySem.Spec PyProof.Rows PySem.W
section
variable {prog : Program} {w : World} {A : Around} {E : Value → Shared → Prop} {s : Shared}
end
section
variable {X : Cx}
end
end L2
/-! ### tuples of ints and of tuples of ints as keys of a dict, all of one shape -/
namespace L2
open PySem PySem.Spec PyProof.Rows PySem.W
abbrev Mx (K : Type) := Sum K (List K)
def isL {K : Type} : Mx K → Bool
  | .inl _ => true
  | .inr _ => false
section
variable {prog : Program} {w : World} {K : Type} [DecidableEq K] {knd : KeyKind prog w K}
inductive ItemsM (knd : KeyKind prog w K) (h : Heap) : List (Mx K) → List Value → Prop
  | nil : ItemsM knd h [] []
  | val {k : K} {v : Value} {ks : List (Mx K)} {vs : List Value} : knd.is k v = true → ItemsM knd h ks vs → ItemsM knd h (.inl k :: ks) (v :: vs)
  | tup {k : List K} {a : Addr} {ks : List (Mx K)} {vs : List Value} : IsTupleKey knd h k a → ItemsM knd h ks vs → ItemsM knd h (.inr k :: ks) (.ref a :: vs)
def IsMix (knd : KeyKind prog w K) (sh : List Bool) (h : Heap) (ks : List (Mx K)) (a : Addr) : Prop := ks.map isL = sh ∧ ∃ o items n, h.get? a = some o ∧ o.cls = .type "tuple" ∧ o.data = .seq items n ∧ ItemsM knd h ks items.toList
theorem ItemsM.inj {h : Heap} {x y : List (Mx K)} {vs : List Value} (hx : ItemsM knd h x vs) (hy : ItemsM knd h y vs) (e : x.map isL = y.map isL) : x = y := by
  induction hx generalizing y with
  | nil => cases hy; rfl
  | val h1 _ ih =>
    cases hy with
    | val h2 t2 => rw [knd.inj _ _ _ h1 h2, ih t2 (by simpa [isL] using e)]
    | tup h2 t2 => simp [isL] at e
  | tup h1 _ ih =>
    cases hy with
    | val h2 t2 => simp [isL] at e
    | tup h2 t2 => rw [h1.inj h2, ih t2 (by simpa [isL] using e)]
theorem ItemsM.keeps {h h' : Heap} {x : List (Mx K)} {vs : List Value} {d : Addr} {o : Obj} {es ep} (hx : ItemsM knd h x vs) (ho : h.get? d = some o) (hd : o.data = .dict es ep) (hs : Heap.SameBut d h h') : ItemsM knd h' x vs := by
  induction hx with
  | nil => exact .nil
  | val h1 _ ih => exact .val h1 ih
  | tup h1 _ ih => exact .tup (h1.keeps ho hd hs) ih
variable {sh : List Bool}
theorem IsMix.typeIs {s : Shared} {ks : List (Mx K)} {a : Addr} (x : IsMix knd sh s.heap ks a) : s.TypeIs (.ref a) "tuple" := let ⟨_, o, _, _, ho, hc, _⟩ := x; ⟨o, ho, hc⟩
theorem IsMix.inj {h : Heap} {a : Addr} {x y : List (Mx K)} (hx : IsMix knd sh h x a) (hy : IsMix knd sh h y a) : x = y := by
  obtain ⟨e1, o, items, n, ho, _, hd, hi⟩ := hx
  obtain ⟨e2, o', items', n', ho', _, hd', hi'⟩ := hy
  obtain rfl : o = o' := Option.some.inj (ho.symm.trans ho')
  rw [hd] at hd'
  injection hd' with h1 _
  subst h1
  exact hi.inj hi' (e1.trans e2.symm)
theorem IsMix.keeps {h h' : Heap} {ks : List (Mx K)} {a d : Addr} {o : Obj} {es ep} (x : IsMix knd sh h ks a) (ho : h.get? d = some o) (hd : o.data = .dict es ep) (hs : Heap.SameBut d h h') : IsMix knd sh h' ks a := by
  obtain ⟨e, o', items, n, ho', hc, hd', hi⟩ := x
  have hne : a ≠ d := by
    rintro rfl
    obtain rfl : o' = o := Option.some.inj (ho'.symm.trans ho)
    rw [hd] at hd'; exact nomatch hd'
  exact ⟨e, o', items, n, (hs.2 a hne).trans ho', hc, hd', hi.keeps ho hd hs⟩
def mixH (knd : KeyKind prog w K) : Mx K → Int
  | .inl k => knd.hash k
  | .inr ks => tupleKeyHash knd ks
def mixN {K : Type} : Mx K → Nat
  | .inl _ => 1
  | .inr ks => ks.length + 1
def mixHash (knd : KeyKind prog w K) (ks : List (Mx K)) : Int := reduceHash (Builtin.Tuple.tupleHashOf (ks.map (mixH knd)))
def mixDraws (ks : List (Mx K)) : Nat := (ks.map mixN).sum + 1
variable {A : Around} {E : Value → Shared → Prop} {s : Shared}
theorem pyHash_mix {ks : List (Mx K)} {a : Addr} {Q : Int → Shared → Prop} (hu : A.units + 1 < cLine) (hk : IsMix knd sh s.heap ks a) (h : Q (mixHash knd ks) { s with toks := s.toks + mixDraws ks }) :
    wpAny (model prog w) A (pyHash (.ref a)) Q E s := by
  have hT := hk.typeIs
  obtain ⟨_, o, items, n, ho, _, hd, hi⟩ := hk
  unfold pyHash
  first | unfold pyHashByItsType | skip
  first | refine wpAny_bind (wpAny_cRoomFor_or (.inr (by omega)) ?_) | skip
  refine wpAny_bind (wpAny_specialOf hT F.slot_tuple_hash.lookup ?_)
  show wpAny _ _ (if (some (Value.builtin "tuple.__hash__") == some Value.none) = true then _ else _) Q E s
  rw [if_neg (by rw [beq_builtin_none]; exact Bool.false_ne_true)]
  refine wpAny_bind (wpAny_specialOf hT F.slot_tuple_hash.lookup ?_)
  show wpAny _ _ (callSpecialIfBoundUnlessNone? (.ref a) "__hash__" _ >>= _) Q E s
  refine wpAny_bind (wpAny_callSpecialIfBoundUnlessNone?_slot hT F.slot_tuple_hash (wpAny_call_entry F.slot_tuple_hash hT F.entry_tuple_hash ?_ (F.args_tuple_hash_1 _)))
  show wpAny _ _ (Builtin.Tuple.tupleItemsOf (.ref a) >>= _) _ _ s
  refine wpAny_bind (wpAny_tupleItemsOf ho hd ?_)
  refine wpAny_bind ?_
  rw [← Array.forIn_toList]
  refine wpAny_forIn_list _
    (fun rest (b : Array Int) s' => ∃ done left, ks = done ++ left ∧ ItemsM knd s.heap left rest ∧ b.toList = done.map (mixH knd) ∧ s' = { s with toks := s.toks + (done.map mixN).sum })
    _ ?_ ?_ _ _ ⟨[], ks, rfl, hi, rfl, rfl⟩
  · rintro x rest b s' ⟨done, left, rfl, hl, hb, rfl⟩
    cases hl with
    | @val k v1 ks' _ h1 hl' =>
      refine wpAny_bind (knd.pyHash h1 ?_)
      first
        | exact wpAny_pure ⟨done ++ [.inl k], ks', by simp, hl', by simp [hb, mixH], by simp [Nat.add_assoc, mixN]⟩
        | exact wpAny_bind (wpAny_pure (wpAny_pure ⟨done ++ [.inl k], ks', by simp, hl', by simp [hb, mixH], by simp [Nat.add_assoc, mixN]⟩))
    | @tup k a1 ks' _ h1 hl' =>
      refine wpAny_bind (wpAny_pyHash_tuple (knd := knd) (ks := k) (by first | exact hu | (rw [units_in1]; omega) | (simp; omega)) h1 ?_)
      first
        | exact wpAny_pure ⟨done ++ [.inr k], ks', by simp, hl', by simp [hb, mixH], by simp [Nat.add_assoc, mixN]⟩
        | exact wpAny_bind (wpAny_pure (wpAny_pure ⟨done ++ [.inr k], ks', by simp, hl', by simp [hb, mixH], by simp [Nat.add_assoc, mixN]⟩))
  · rintro b s' ⟨done, left, rfl, hl, hb, rfl⟩
    cases hl
    rw [List.append_nil] at h
    show wpAny _ _ (retInt (Builtin.Tuple.tupleHashOf b.toList)) _ _ _
    rw [hb]
    refine wpAny_ret_mkInt ?_
    show wpAny _ _ (if (decide (-(2 : Int) ^ 63 ≤ Builtin.Tuple.tupleHashOf (done.map (mixH knd))) && decide (Builtin.Tuple.tupleHashOf (done.map (mixH knd)) < 2 ^ 63)) = true then _ else _) Q E _
    unfold mixHash reduceHash mixDraws at h
    by_cases hr : (decide (-(2 : Int) ^ 63 ≤ Builtin.Tuple.tupleHashOf (done.map (mixH knd))) && decide (Builtin.Tuple.tupleHashOf (done.map (mixH knd)) < 2 ^ 63)) = true
    · rw [if_pos hr]
      rw [if_pos hr] at h
      exact wpAny_pure (by simpa [Nat.add_assoc] using h)
    · rw [if_neg hr]
      rw [if_neg hr] at h
      exact wpAny_bind (wpAny_rule (wpAny_pure (by simpa [Nat.add_assoc] using h)))
theorem mix_eq_tree {x y : List (Mx K)} {a b : Addr} {P : Fin → Shared → Prop} (hu : A.units < cLine) (hx : IsMix knd sh s.heap x a) (hy : IsMix knd sh s.heap y b) (h : P (.done (.ret (.bool (decide (x = y))))) s) :
    wpAny (model prog w) A (Builtin.«tuple.__eq__» ⟨[.ref a, .ref b], []⟩) P E s := by
  have hTb := hy.typeIs
  obtain ⟨sx, oa, xs, na, hoa, _, hda, hia⟩ := hx
  obtain ⟨sy, ob, ys, nb, hob, _, hdb, hib⟩ := hy
  show wpAny _ _ (isInstance (.ref b) (.type "tuple") >>= _) _ _ s
  refine wpAny_bind (wpAny_isInstance hTb isSubtype_tuple_tuple ?_)
  simp only [Bool.not_true, Bool.false_eq_true, if_false]
  refine wpAny_bind (wpAny_tupleItemsOf hoa hda ?_)
  refine wpAny_bind (wpAny_tupleItemsOf hob hdb ?_)
  refine wpAny_bind ?_
  refine wpAny_forIn_list _
    (fun rest r s' => r.1 = none ∧ s' = s ∧ ∃ x' y' xs' ys', rest = List.zip xs' ys' ∧ ItemsM knd s.heap x' xs' ∧ ItemsM knd s.heap y' ys' ∧ decide (x' = y') = decide (x = y) ∧ x'.map isL = y'.map isL ∧ (xs'.length == ys'.length) = (xs.size == ys.size))
    _ ?_ ?_ _ _ ⟨rfl, rfl, x, y, xs.toList, ys.toList, rfl, hia, hib, rfl, sx.trans sy.symm, by simp⟩
  · rintro ⟨u, v⟩ rest r s' ⟨hr, rfl, x', y', xs', ys', hz, hx', hy', hdec, hsh, hlen⟩
    cases hx' with
    | nil => simp at hz
    | @val k1 v1 x'' xs'' h1 hx'' =>
      cases hy' with
      | nil => simp at hz
      | tup _ _ => simp [isL] at hsh
      | @val k2 v2 y'' ys'' h2 hy'' =>
        simp only [List.zip_cons_cons, List.cons.injEq, Prod.mk.injEq] at hz
        obtain ⟨⟨rfl, rfl⟩, rfl⟩ := hz
        refine wpAny_bind (knd.eqBool h1 h2 ?_)
        by_cases hk : k1 = k2
        · subst hk
          rw [decide_eq_true rfl]
          simp only [Bool.not_true, Bool.false_eq_true, if_false]
          refine wpAny_pure ⟨rfl, rfl, x'', y'', xs'', ys'', rfl, hx'', hy'', ?_, by simpa using hsh, by simpa using hlen⟩
          rw [← hdec]
          by_cases hxy : x'' = y''
          · simp [hxy]
          · simp [hxy]
        · rw [decide_eq_false hk]
          simp only [Bool.not_false, if_true]
          have hf : decide (x = y) = false := by rw [← hdec]; simp [hk]
          rw [hf] at h
          exact wpAny_bind (wpAny_pure (wpAny_pure (wpAny_pure h)))
    | @tup k1 a1 x'' xs'' h1 hx'' =>
      cases hy' with
      | nil => simp at hz
      | val _ _ => simp [isL] at hsh
      | @tup k2 a2 y'' ys'' h2 hy'' =>
        simp only [List.zip_cons_cons, List.cons.injEq, Prod.mk.injEq] at hz
        obtain ⟨⟨rfl, rfl⟩, rfl⟩ := hz
        refine wpAny_bind (wpAny_eqBool_tuple (knd := knd) (x := k1) (y := k2) (by first | exact hu | (rw [units_in1]; omega) | (simp; omega)) h1 h2 ?_)
        by_cases hk : k1 = k2
        · subst hk
          rw [decide_eq_true rfl]
          simp only [Bool.not_true, Bool.false_eq_true, if_false]
          refine wpAny_pure ⟨rfl, rfl, x'', y'', xs'', ys'', rfl, hx'', hy'', ?_, by simpa using hsh, by simpa using hlen⟩
          rw [← hdec]
          by_cases hxy : x'' = y''
          · simp [hxy]
          · simp [hxy]
        · rw [decide_eq_false hk]
          simp only [Bool.not_false, if_true]
          have hf : decide (x = y) = false := by rw [← hdec]; simp [hk]
          rw [hf] at h
          exact wpAny_bind (wpAny_pure (wpAny_pure (wpAny_pure h)))
  · rintro ⟨r1, r2⟩ s' ⟨hr, rfl, x', y', xs', ys', hz, hx', hy', hdec, hsh, hlen⟩
    simp only at hr
    subst hr
    refine wpAny_pure ?_
    have hfin : (xs.size == ys.size) = decide (x = y) := by
      rw [← hdec, ← hlen]
      cases hx' with
      | nil =>
        cases hy' with
        | nil => simp
        | val _ _ => simp
        | tup _ _ => simp
      | val _ _ =>
        cases hy' with
        | nil => simp
        | val _ _ => simp at hz
        | tup _ _ => simp at hz
      | tup _ _ =>
        cases hy' with
        | nil => simp
        | val _ _ => simp at hz
        | tup _ _ => simp at hz
    show P (.done (.ret (.bool (xs.size == ys.size)))) s'
    rw [hfin]; exact h
theorem eqBool_mix {x y : List (Mx K)} {a b : Addr} {Q : Bool → Shared → Prop} (hu : A.units + 1 < cLine) (hx : IsMix knd sh s.heap x a) (hy : IsMix knd sh s.heap y b) (h : Q (decide (x = y)) s) :
    wpAny (model prog w) A (eqBool (.ref a) (.ref b)) Q E s := by
  unfold eqBool
  try with_reducible refine wpAny_holding ?_
  show wpAny _ _ (if (Value.ref a == Value.ref b) = true then _ else _) Q E s
  by_cases hab : (Value.ref a == Value.ref b) = true
  · rw [if_pos hab]
    have e : a = b := by have := eq_of_beq hab; injection this
    subst e
    obtain rfl := hx.inj hy
    exact wpAny_bind (wpAny_rule (wpAny_pure (by simpa using h)))
  · rw [if_neg hab]
    exact wpAny_bind (wpAny_richCompare_same_room (op := .Eq) hx.typeIs hy.typeIs F.slot_tuple_eq
      (wpAny_call_entry F.slot_tuple_eq hx.typeIs F.entry_tuple_eq (mix_eq_tree (by first | omega | (rw [units_in1]; omega) | (simp; omega)) hx hy ⟨_, rfl, (fun e => nomatch e), wpAny_truthy_bool h⟩) (F.args_tuple_eq_2 _ _)) (by omega))
theorem quiet_mix {ks : List (Mx K)} {a : Addr} {Q : Bool → Shared → Prop} (hk : IsMix knd sh s.heap ks a) (h : Q true s) : wpAny (model prog w) A (eqIsQuiet 8 (.ref a)) Q E s := by
  have hT := hk.typeIs
  obtain ⟨_, o, items, n, ho, _, hd, hi⟩ := hk
  unfold eqIsQuiet
  refine wpAny_bind (wpAny_specialOf hT F.slot_tuple_eq.lookup ?_)
  show wpAny _ _ (isInstance (.ref a) (.type "tuple") >>= _) _ _ s
  refine wpAny_bind (wpAny_isInstance hT isSubtype_tuple_tuple ?_)
  simp only [Bool.not_true, Bool.false_eq_true, if_false]
  refine wpAny_bind (wpAny_seqItems ho hd ?_)
  refine wpAny_bind ?_
  show wpAny _ _ (forIn items _ _) _ _ s
  rw [← Array.forIn_toList]
  refine wpAny_forIn_list _ (fun rest r s' => r.1 = none ∧ s' = s ∧ ∃ x, ItemsM knd s.heap x rest) _ ?_ ?_ _ _ ⟨rfl, rfl, ks, hi⟩
  · rintro v rest r s' ⟨hr, rfl, x, hall⟩
    cases hall with
    | val h1 ht =>
      rw [eqIsQuiet_byValue _ (knd.byValue _ _ h1)]
      refine wpAny_bind (wpAny_pure ?_)
      simp only [Bool.not_true, Bool.false_eq_true, if_false]
      exact wpAny_pure ⟨rfl, rfl, _, ht⟩
    | tup h1 ht =>
      refine wpAny_bind (quiet_tuple h1 ?_)
      simp only [Bool.not_true, Bool.false_eq_true, if_false]
      exact wpAny_pure ⟨rfl, rfl, _, ht⟩
  · rintro ⟨r1, r2⟩ s' ⟨hr, rfl, _⟩
    simp only at hr
    subst hr
    exact wpAny_pure h
end
def mxKind {prog : Program} {w : World} {K : Type} [DecidableEq K] (knd : KeyKind prog w K) (sh : List Bool) : HeapKind prog w (List (Mx K)) where
  is := IsMix knd sh
  hash := mixHash knd
  draws := mixDraws
  room := fun A => A.units + 1 < cLine
  inj := fun hx hy => hx.inj hy
  keeps := fun x ho hd hs => x.keeps ho hd hs
  pyHash := fun hu hk h => pyHash_mix hu hk h
  eqBool := fun hu hx hy h => eqBool_mix hu hx hy h
  quiet := fun hk h => quiet_mix hk h
end L2
/-! ### dicts keyed by tuples (int, int, tuple of ints, tuple of ints): known to the heap by .ext -/
namespace L2
open PySem PySem.Spec PyProof.Rows PySem.W
def mD : Mx Int → D
  | .inl i => .i i
  | .inr t => tI t
def qsh : List Bool := [true, true, false, false]
def mK (ks : List (Mx Int)) : D := .t (ks.map mD)
def IsK (H : Hp) (ks : List (Mx Int)) (v : V) : Prop := ks.map isL = qsh ∧ Is H (mK ks) v
section
variable {P : Program} {w : World} {H : Hp} {h : Heap} {a : Addr}
def mE (P : Program) (w : World) (xs : List (List (Mx Int) × Addr × Value)) (a : Addr) (h : Heap) : Prop :=
  ∃ o es ep, h.get? a = some o ∧ o.ExactDict ∧ o.data = .dict es ep ∧ es.toList = xs.map (entryOfKey (mxKind (intKind P w) qsh)) ∧ (xs.map (·.1)).Nodup
abbrev MT (H : Hp) : List (List (Mx Int) × V) → List (List (Mx Int) × Addr × Value) → Prop := Paired fun p q => p.1 = q.1 ∧ IsK H p.1 (.ref q.2.1) ∧ RelV p.2 q.2.2
/-- the dict at a holds kvs -/
def DM (P : Program) (w : World) (H : Hp) (a : Addr) (kvs : List (List (Mx Int) × V)) : Prop := kvs.length ≤ sizeLine ∧ (a == sysModules) = false ∧ ∃ xs, MT H kvs xs ∧ H a = some (.ext (mE P w xs a))
theorem items_mix (ok : HOk P w H h) : ∀ {ks : List (Mx Int)} {vs : List V} {us : List Value}, Iss H (ks.map mD) vs → Vals vs us → ItemsM (intKind P w) h ks us
  | [], _, _, i, r => by rw [of_nil i] at r; cases r; exact .nil
  | .inl k :: ks, _, _, i, r => by
    obtain ⟨u, us, rfl, q, i2⟩ := of_cons i
    obtain rfl := of_i q
    cases r with
    | cons h t =>
      obtain ⟨t', rfl⟩ := h
      exact .val (show Value.isInt k (.int k t') = true by simp [Value.isInt]) (items_mix ok i2 t)
  | .inr k :: ks, _, _, i, r => by
    obtain ⟨u, us, rfl, q, i2⟩ := of_cons i
    obtain ⟨b, rfl, hb⟩ := of_tI q
    cases r with
    | cons h t =>
      cases h
      exact .tup (key_tI ok hb) (items_mix ok i2 t)
theorem mkey_of {ks : List (Mx Int)} (ok : HOk P w H h) (e : IsK H ks (.ref a)) : (mxKind (intKind P w) qsh).is h ks a := by
  obtain ⟨sh, e⟩ := e
  obtain ⟨b, vs, eb, hb, hi⟩ := of_t e
  cases eb
  obtain ⟨_, its, r, o, h1, h2, n, h3⟩ := (show ObjOk P w H h a (.tup vs) from ok a _ hb)
  exact ⟨sh, o, its.toArray, n, h1, h2, h3, by simpa using items_mix ok hi r⟩
theorem dm_rd {kvs : List (List (Mx Int) × V)} (ok : HOk P w H h) (e : DM P w H a kvs) : kvs.length ≤ sizeLine ∧ (a == sysModules) = false ∧ ∃ xs, MT H kvs xs ∧ H a = some (.ext (mE P w xs a)) ∧ h.DictOfH (mxKind (intKind P w) qsh) a xs := by
  obtain ⟨z, y, xs, r, e⟩ := e
  obtain ⟨⟨o, es, ep, h1, h2, h3, h4, h5⟩, _, _⟩ := (show ObjOk P w H h a (.ext (mE P w xs a)) from ok a _ e)
  refine ⟨z, y, xs, r, e, o, es, ep, h1, h2, h3, h4, fun x hx => ?_, h5⟩
  have all : ∀ {l : List (List (Mx Int) × V)} {m : List (List (Mx Int) × Addr × Value)}, MT H l m → ∀ x ∈ m, (mxKind (intKind P w) qsh).is h x.1 x.2.1 := by
    intro l m q
    induction q with
    | nil => intro x hx; exact nomatch hx
    | @cons p q ps qs hq t ih =>
      intro x hx
      rcases List.mem_cons.mp hx with e | hx
      · subst e
        exact mkey_of ok (by rw [← hq.1]; exact hq.2.1)
      · exact ih x hx
  exact all r x hx
theorem dm_ok {xs : List (List (Mx Int) × Addr × Value)} {H' : Hp} (d : ∃ o es ep, h.get? a = some o ∧ o.ExactDict ∧ o.data = .dict es ep ∧ es.toList = xs.map (entryOfKey (mxKind (intKind P w) qsh)) ∧ (xs.map (·.1)).Nodup) : ObjOk P w H' h a (.ext (mE P w xs a)) := by
  refine ⟨d, let ⟨o, _, _, h1, _⟩ := d; ⟨o, h1⟩, fun h1 h2 f k => ?_⟩
  obtain ⟨o, es, ep, e1, r⟩ := f
  exact ⟨o, es, ep, k o e1, r⟩
theorem MT.val {kvs : List (List (Mx Int) × V)} {xs : List (List (Mx Int) × Addr × Value)} (r : MT H kvs xs) (k : List (Mx Int)) : RelO (valV kvs k) ((atKey xs k).map (·.2)) := by
  induction r with
  | nil => exact True.intro
  | @cons p q ps qs h t ih =>
    obtain ⟨h1, _, h2⟩ := h
    by_cases e : p.1 = k
    · have e' : q.1 = k := h1.symm.trans e
      have b : atKey (q :: qs) k = some q.2 := by simp [atKey, List.find?_cons, e']
      rw [valV_pos e, b]; exact h2
    · have e' : ¬ q.1 = k := fun z => e (h1.trans z)
      have b : atKey (q :: qs) k = atKey qs k := by simp [atKey, List.find?_cons, e']
      rw [valV_neg e, b]; exact ih
theorem MT.repl {kvs : List (List (Mx Int) × V)} {xs : List (List (Mx Int) × Addr × Value)} (r : MT H kvs xs) (k : List (Mx Int)) {y : V} {u : Value} (ry : RelV y u) :
    MT H (kvs.map fun kv => if kv.1 = k then (kv.1, y) else kv) (xs.map (putAt k u)) := by
  induction r with
  | nil => exact .nil
  | @cons p q ps qs h t ih =>
    rw [List.map_cons, List.map_cons]
    refine .cons ?_ ih
    obtain ⟨h1, h2, h3⟩ := h
    unfold putAt
    by_cases e : p.1 = k
    · rw [if_pos e, if_pos (h1.symm.trans e)]; exact ⟨h1, h2, ry⟩
    · rw [if_neg e, if_neg (fun z => e (h1.trans z))]; exact ⟨h1, h2, h3⟩
theorem MT.put {kvs : List (List (Mx Int) × V)} {xs : List (List (Mx Int) × Addr × Value)} (r : MT H kvs xs) (k : List (Mx Int)) {b : Addr} {y : V} {u : Value} (hb : IsK H k (.ref b)) (ry : RelV y u) :
    MT H (putK kvs k y) (storedH xs k b u) := by
  have e : (kvs.any fun kv => decide (kv.1 = k)) = (atKey xs k).isSome := by
    rw [valV_any, (r.val k).isSome_eq, Option.isSome_map]
  unfold putK storedH
  rw [e]
  by_cases q : (atKey xs k).isSome = true
  · rw [if_pos q, if_pos q]; exact r.repl k ry
  · rw [if_neg q, if_neg q]; exact Paired.snoc r ⟨rfl, hb, ry⟩
theorem mK_keeps {H' : Hp} (ht : ∀ b ys, H b = some (.tup ys) → H' b = some (.tup ys)) {ks : List (Mx Int)} {v : V} (h : IsK H ks v) : IsK H' ks v := by
  obtain ⟨sh, h⟩ := h
  obtain ⟨b, vs, rfl, hb, hi⟩ := of_t h
  have go : ∀ {xs : List (Mx Int)} {vs : List V}, Iss H (xs.map mD) vs → Iss H' (xs.map mD) vs := by
    intro xs
    induction xs with
    | nil => intro vs h; rw [of_nil h]; exact iss_nil
    | cons x xs ih =>
      intro vs h
      obtain ⟨u, us, rfl, q, r⟩ := of_cons h
      cases x with
      | inl k => rw [show u = .int k from of_i q]; exact iss_cons is_i (ih r)
      | inr k =>
        obtain ⟨c, rfl, hc⟩ := of_tI q
        exact iss_cons (is_tI (ht _ _ hc)) (ih r)
  exact ⟨sh, is_t (ht _ _ hb) (go hi)⟩
theorem MT.keeps {H' : Hp} {kvs : List (List (Mx Int) × V)} {xs : List (List (Mx Int) × Addr × Value)} (r : MT H kvs xs) (ht : ∀ b ys, H b = some (.tup ys) → H' b = some (.tup ys)) : MT H' kvs xs :=
  Paired.mapP r fun _ _ z => ⟨z.1, mK_keeps ht z.2.1, z.2.2⟩
theorem DM.mono {H' : Hp} {kvs : List (List (Mx Int) × V)} (s : Same H H') (d : DM P w H a kvs) : DM P w H' a kvs := by
  obtain ⟨z, y, xs, r, e⟩ := d
  exact ⟨z, y, xs, r.keeps fun b ys => s b _, s _ _ e⟩
theorem DM.mut {kvs : List (List (Mx Int) × V)} (d : DM P w H a kvs) : Mut (H a) := by
  obtain ⟨_, _, xs, _, e⟩ := d
  rw [e]
  exact True.intro
theorem DM.ntup {kvs : List (List (Mx Int) × V)} (d : DM P w H a kvs) {b : Addr} {ys : List V} (e : H b = some (.tup ys)) : b ≠ a := by
  obtain ⟨_, _, xs, _, e2⟩ := d
  rintro rfl
  rw [e2] at e
  cases e
end
section
variable {X : Cx} {pins : List (Addr × Obj)} {σ : St} {H : Hp} {s : Shared} {a b : Addr} {v : V} {r : Value} {A : Around} {E : Value → Shared → Prop} {kvs : List (List (Mx Int) × V)} {ks : List (Mx Int)}
theorem room_mix {prog : Program} {w : World} {A : Around} (hu : A.units + 2 < cLine) : (mxKind (intKind prog w) qsh).room A.in1 := by
  show A.in1.units + 1 < cLine
  rw [units_in1]
  omega
theorem m_getItem {Q : Value → Shared → Prop} (hu : A.units + 2 < cLine) (I : Inv X pins σ H s) (d : DM X.prog X.w H a kvs) (k : IsK H ks (.ref b)) (l : valV kvs ks = some v) (h : ∀ w' s', Inv X pins σ H s' → RelV v w' → Q w' s') :
    wpAny (model X.prog X.w) A (getItem (.ref a) (.ref b)) Q E s := by
  obtain ⟨z, hd, xs, rel, _, dd⟩ := dm_rd I.hok d
  obtain ⟨w', hw, rw'⟩ := RelO.some_of (v := v) (o := (atKey xs ks).map (·.2)) (by rw [← l]; exact rel.val ks)
  obtain ⟨p, hp, hp2⟩ := Option.map_eq_some_iff.mp hw
  refine wpAny_getItem_heap (room_mix hu) (mkey_of I.hok k) dd hp ?_
  rw [hp2]
  exact h w' _ (I.tok _) rw'
theorem m_notIn {Q : Value → Shared → Prop} (hu : A.units + 2 < cLine) (I : Inv X pins σ H s) (d : DM X.prog X.w H a kvs) (k : IsK H ks (.ref b)) (h : ∀ s', Inv X pins σ H s' → Q (.bool (!(valV kvs ks).isSome)) s') :
    wpAny (model X.prog X.w) A (compareOp .NotIn (.ref b) (.ref a)) Q E s := by
  obtain ⟨z, hd, xs, rel, _, dd⟩ := dm_rd I.hok d
  refine wpAny_notIn_heap (room_mix hu) (mkey_of I.hok k) hd dd ?_
  have q := (rel.val ks).isSome_eq
  rw [Option.isSome_map] at q
  rw [← q]
  exact h _ (I.tok _)
theorem m_setItem {Q : Unit → Shared → Prop} (hu : A.units + 2 < cLine) (I : Inv X pins σ H s) (d : DM X.prog X.w H a kvs) (k : IsK H ks (.ref b)) (hl : kvs.length < sizeLine) (rv : RelV v r)
    (h : ∀ H' s', DM X.prog X.w H' a (putK kvs ks v) → (∀ b, b ≠ a → H' b = H b) → Inv X pins σ H' s' → Q () s') : wpAny (model X.prog X.w) A (setItem (.ref a) (.ref b) r) Q E s := by
  obtain ⟨z, hd, xs, rel, e, dd⟩ := dm_rd I.hok d
  have hz : xs.length ≤ sizeLine := by rw [← Paired.length rel]; exact z
  have hl' : (putK kvs ks v).length ≤ sizeLine := by have := length_putK kvs ks v; omega
  refine wpAny_setItem_heap (hsz := hz) (room_mix hu) (mkey_of I.hok k) dd fun h' dd' hs => ?_
  obtain ⟨q, es, ep, hq, h2, h3, h4, _, h5⟩ := dd'
  refine h (upd H a (.ext (mE X.prog X.w (storedH xs ks b r) a))) _ ⟨hl', hd, _, (rel.put ks k rv).keeps fun c ys ec => ?_, upd_same⟩ (fun c hc => upd_ne hc) (d_write I d.mut hs ⟨q, hq⟩ (dm_ok ⟨q, es, ep, hq, h2, h3, h4, h5⟩))
  rw [upd_ne (d.ntup ec)]
  exact ec
theorem dm_at (I : Inv X pins σ H s) (d : DM X.prog X.w H a kvs) : s.TypeIs (.ref a) "dict" ∧ (∀ b, Value.ref a = .ref b → ∃ ob, s.heap.get? b = some ob ∧ ob.dict = none) ∧ (a == sysModules) = false := by
  obtain ⟨_, hd, xs, _, _, dd⟩ := dm_rd I.hok d
  refine ⟨dd.typeIs, fun b q => ?_, hd⟩
  cases q
  obtain ⟨ob, _, _, h1, h2, _⟩ := dd
  exact ⟨ob, h1, h2.2.1⟩
end
/-- d[y] -/
def tMGet (P : Program) (w : World) (td ty : TE) : TE := fun σ H Q => td σ H fun x H1 => ty σ H1 fun y H2 => ∃ a kvs ks v, x = .ref a ∧ DM P w H2 a kvs ∧ IsK H2 ks y ∧ valV kvs ks = some v ∧ Q v H2
def tMNotIn (P : Program) (w : World) (ty td : TE) : TE := fun σ H Q => ty σ H fun y H1 => td σ H1 fun x H2 => ∃ a kvs ks, x = .ref a ∧ DM P w H2 a kvs ∧ IsK H2 ks y ∧ Q (.bl (!(valV kvs ks).isSome)) H2
def sMPut (P : Program) (w : World) (td ty tv : TE) : TS := fun D σ H => tv σ H fun v H1 => td σ H1 fun x H2 => ty σ H2 fun y H3 => ∃ a kvs ks, x = .ref a ∧ DM P w H3 a kvs ∧ IsK H3 ks y ∧ kvs.length < sizeLine ∧ ∀ H4, DM P w H4 a (putK kvs ks v) → (∀ b, b ≠ a → H4 b = H3 b) → D.nx σ H4
def tMNew (P : Program) (w : World) : TE := fun _ H Q => ∀ p H', H p = none → DM P w H' p [] → (∀ b, b ≠ p → H' b = H b) → Q (.ref p) H'
section
variable {X : Cx} {o i e f value ek ev : Expr} {pos pos' apos cpos : Pos} {td ty tv tx tk : TE}
theorem mref {H : Hp} {ks : List (Mx Int)} {y : V} {u : Value} (h : IsK H ks y) (r : RelV y u) : ∃ b, y = .ref b ∧ u = .ref b := by
  obtain ⟨b, _, rfl, _⟩ := of_t h.2
  exact ⟨b, rfl, r⟩
theorem pe_mget (hu : X.A.units + 2 < cLine) (ho : PE X o td) (hi : PE X i ty) (hs : NoSl i) : PE X (.Subscript o i pos) (tMGet X.prog X.w td ty) := by
  intro pins s σ H Q I h
  refine subD_of PySem.F.slot_dict_getitem.lookup hs (thn (ho pins s σ H _ I h) fun u s1 ⟨x, H1, I1, rx, q1⟩ => thn (hi pins s1 σ H1 _ I1 q1) fun iv s2 ⟨y, H2, I2, ry, a, kvs, ks, v, ex, d, k, l, q2⟩ => ?_)
  subst ex
  obtain rfl : u = Value.ref a := rx
  obtain ⟨b, rfl, rfl⟩ := mref k ry
  exact ⟨(dm_at I2 d).1, m_getItem hu I2 d k l fun w' s3 I3 rw' => ⟨v, H2, I3, rw', q2⟩⟩
theorem pc_mnotin (hu : X.A.units + 2 < cLine) (hi : PE X i ty) (ho : PE X o td) : PC X .NotIn i o (tMNotIn X.prog X.w ty td) := by
  intro pins s σ H Q I h
  refine thn (hi pins s σ H _ I h) fun iv s1 ⟨y, H1, I1, ry, q1⟩ => thn (ho pins s1 σ H1 _ I1 q1) fun u s2 ⟨x, H2, I2, rx, a, kvs, ks, ex, d, k, q2⟩ => ?_
  subst ex
  obtain rfl : u = Value.ref a := rx
  obtain ⟨b, rfl, rfl⟩ := mref k ry
  exact m_notIn hu I2 d k fun s3 I3 => ⟨.bl _, H2, I3, rfl, q2⟩
theorem ps_mput (hu : X.A.units + 2 < cLine) (ho : PE X o td) (hi : PE X i ty) (hv : PE X value tv) (hs : swapsWith value (some (.Subscript o i pos')) pos.line X.env = pure false) :
    PS X (.Assign [.Subscript o i pos'] value pos) (sMPut X.prog X.w td ty tv) := by
  intro pins s σ H D I h
  refine wpAny_Assign_Subscript (thn (hv pins s σ H _ I h) fun r s1 ⟨v, H1, I1, rv, q1⟩ => thn (ho pins s1 σ H1 _ I1 q1) fun u s2 ⟨x, H2, I2, rx, q2⟩ => thn (hi pins s2 σ H2 _ I2 q2) fun iv s3 ⟨y, H3, I3, ry, a, kvs, ks, ex, d, k, hl, q3⟩ => ?_) hs
  subst ex
  obtain rfl : u = Value.ref a := rx
  obtain ⟨b, rfl, rfl⟩ := mref k ry
  exact m_setItem hu I3 d k hl rv fun H4 s4 d4 k4 I4 => ⟨σ, H4, I4, q3 H4 d4 k4⟩
theorem dm_empty {P : Program} {w : World} {H : Hp} {h : Heap} {p : Addr} (hp : p = h.objs.size) (hb : sysModules < h.objs.size) : DM P w (upd H p (.ext (mE P w [] p))) p [] := by
  subst hp
  exact ⟨Nat.zero_le _, beq_eq_false_iff_ne.mpr (Ne.symm (Nat.ne_of_lt hb)), [], .nil, upd_same⟩
theorem dm_empty_ok {P : Program} {w : World} {H : Hp} (h : Heap) : ObjOk P w H (h.push { cls := .type "dict", data := .dict #[] }) h.objs.size (.ext (mE P w [] h.objs.size)) :=
  dm_ok ⟨_, #[], 0, Heap.get?_push_size _ rfl, ⟨rfl, rfl, rfl⟩, rfl, rfl, List.nodup_nil⟩
theorem pe_mnew : PE X (.Dict [] [] pos) (tMNew X.prog X.w) := fun pins s σ H Q I h =>
  wpAny_Dict_empty ⟨.ref s.heap.objs.size, _, I.laid (a := s.heap.objs.size) (o := .ext (mE X.prog X.w [] s.heap.objs.size)) (t' := s.toks) (fun _ _ q => Heap.get?_push_of_some _ q) (Nat.le_refl _) (dm_empty_ok s.heap), rfl, h _ _ (I.hok.fresh (Nat.le_refl _)) (dm_empty rfl I.big) (fun b hb => upd_ne hb)⟩
end
end L2
/-! ### tuples: enumerate(t), zip(t, u), sum(t) -/
namespace L2
open PySem PySem.Spec PyProof.Rows
section
variable {prog : Program} {w : World} {A : Around} {E : Value → Shared → Prop} {s : Shared}
theorem nextT_item {it t : Addr} {i : Nat} {vs : Array Value} {x : Value} {Q : Value → Shared → Prop} (hit : s.heap.IsTupleIter it t i) (ht : s.heap.IsTuple t vs) (hx : vs[i]? = some x) (hQ : ∀ h', h'.IsTupleIter it t (i + 1) → Heap.SameBut it s.heap h' → Q x { s with heap := h' }) :
    wpAny (model prog w) A (Builtin.SmallTypes.nextOf (.ref it)) Q E s := by
  obtain ⟨o, ho, hc, hd⟩ := id hit; obtain ⟨q, hq, _, nq, hdq⟩ := ht
  unfold Builtin.SmallTypes.nextOf; refine wpAny_bind (wpAny_callSpecial?_slot (name := Str.ofString "__next__") hit.typeIs F.slot_tuple_iterator_next (wpAny_call_entry F.slot_tuple_iterator_next hit.typeIs F.entry_tuple_iterator_next ?_ (F.args_tuple_iterator_next_1 _)))
  show wpAny _ _ (field (.ref it) 0 >>= _) _ _ s; refine wpAny_bind (wpAny_field ho hd (x := .ref t) rfl ?_); show wpAny _ _ (if (Value.ref t == Value.none) = true then _ else _) _ _ s; rw [if_neg (show ¬ ((Value.ref t == Value.none) = true) from Bool.false_ne_true)]
  show wpAny _ _ (field (.ref it) 1 >>= _) _ _ s; refine wpAny_bind (wpAny_field ho hd (x := .int i 0) rfl ?_); show wpAny _ _ (seqItems? (.ref t) >>= _) _ _ s; refine wpAny_bind (wpAny_seqItems hq hdq ?_); simp only [Int.toNat_natCast, hx]
  refine wpAny_bind (wpAny_setField ho hd (by simp) (wpAny_pure ⟨x, rfl, wpAny_pure (hQ _ ⟨_, Heap.get?_update_self _ ho (Obj.isFreed_of_fields (Obj.data_mapFields hd _)), (Obj.cls_mapFields ..).trans hc, by rw [Obj.data_mapFields hd]; simp [rawInt]⟩ (Heap.SameBut.update ..))⟩))
theorem nextT_end {it t : Addr} {i : Nat} {vs : Array Value} {Q : Value → Shared → Prop} (hh : A.handled = none) (hit : s.heap.IsTupleIter it t i) (ht : s.heap.IsTuple t vs) (hx : vs[i]? = none)
    (hE : ∀ h' e, Heap.ExtBut it s.heap h' → (∃ o, h'.get? e = some o ∧ o.cls = .type "StopIteration") → E (.ref e) { s with heap := h' }) : wpAny (model prog w) A (Builtin.SmallTypes.nextOf (.ref it)) Q E s := by
  obtain ⟨o, ho, hc, hd⟩ := id hit; obtain ⟨q, hq, _, nq, hdq⟩ := ht
  unfold Builtin.SmallTypes.nextOf; refine wpAny_bind (wpAny_callSpecial?_slot (name := Str.ofString "__next__") hit.typeIs F.slot_tuple_iterator_next (wpAny_call_entry F.slot_tuple_iterator_next hit.typeIs F.entry_tuple_iterator_next ?_ (F.args_tuple_iterator_next_1 _)))
  show wpAny _ _ (field (.ref it) 0 >>= _) _ _ s; refine wpAny_bind (wpAny_field ho hd (x := .ref t) rfl ?_); show wpAny _ _ (if (Value.ref t == Value.none) = true then _ else _) _ _ s; rw [if_neg (show ¬ ((Value.ref t == Value.none) = true) from Bool.false_ne_true)]
  show wpAny _ _ (field (.ref it) 1 >>= _) _ _ s; refine wpAny_bind (wpAny_field ho hd (x := .int i 0) rfl ?_); show wpAny _ _ (seqItems? (.ref t) >>= _) _ _ s; refine wpAny_bind (wpAny_seqItems hq hdq ?_); simp only [Int.toNat_natCast, hx]
  refine wpAny_bind (wpAny_rule (wpAny_bind (wpAny_setField ho hd (by simp) ?_))); show wpAny _ _ (newExc (.type "StopIteration") [] >>= _) _ _ _; refine wpAny_bind ?_; simp only [newExc, newTuple]; refine wpAny_bind (wpAny_newObj_type ?_ (by size_fits))
  refine wpAny_bind (m := firstArgMember _ _) (wpAny_of_eq (a := Value.none) (by first | rfl | (simp only [firstArgMember]; rfl)) (wpAny_newObj_type ?_ (by size_fits))); simp only [raiseNew]; refine wpAny_bind (wpAny_handled ?_); (first | rw [show A.in1.handled = none from hh] | rw [hh]); exact wpAny_bind (wpAny_pure (wpAny_throw (hE _ _ (((Heap.SameBut.update ..).extBut.push _).push _) ⟨_, Heap.get?_push_size _ rfl, rfl⟩)))
theorem drawsT (hh : A.handled = none) (it t : Addr) (hne : t ≠ it) (vs : Array Value) : Draws prog w A it [it, t] vs.size (fun i v => vs[i]? = some v) (fun i h => h.IsTupleIter it t i ∧ h.IsTuple t vs) where
  live := fun _ _ st => let ⟨⟨o, ho, _⟩, _⟩ := st; ⟨o, ho⟩
  frame := fun _ _ _ ⟨st1, st2⟩ hk => ⟨st1.at fun o e => hk it (by simp) o e, st2.at fun o e => hk t (by simp) o e⟩
  item := fun i s Q E hi ⟨st1, st2⟩ hQ => nextT_item st1 st2 (x := vs[i]) (by simp [hi]) fun h' a b => hQ _ h' s.toks (by simp [hi]) ⟨a, st2.extBut b.extBut hne⟩ b
  done := fun s Q E ⟨st1, st2⟩ hE => nextT_end hh st1 st2 (by simp) hE
theorem call_enumT {t : Addr} {vs : Array Value} {Q : Value → Shared → Prop} (hL : s.heap.IsTuple t vs)
    (h : ∀ h', IsEnum h' (s.heap.objs.size + 1) s.heap.objs.size 0 .none → h'.IsTupleIter s.heap.objs.size t 0 → h'.objs.size = s.heap.objs.size + 2 → (∀ b o, s.heap.get? b = some o → h'.get? b = some o) → Q (.ref (s.heap.objs.size + 1)) { s with heap := h' }) :
    wpAny (model prog w) A (call (.type "enumerate") [.ref t]) Q E s := by
  have mt : Meets (Builtin.«enumerate.__new__» ⟨[.type "enumerate", .ref t], []⟩) (fun _ R s => s.heap.IsTuple t vs ∧ R (.ok (.ret (.ref (s.heap.push { cls := .type "tuple_iterator", data := .fields #[.ref t, .int 0 0] }).objs.size))) { s with heap := (s.heap.push { cls := .type "tuple_iterator", data := .fields #[.ref t, .int 0 0] }).push { cls := .type "enumerate", data := .fields #[.none, .bool false, .ref s.heap.objs.size, rawInt 0, .none, .none] } }) :=
    .of_wp fun prog w A R s h => by
      obtain ⟨hp, g, d, tk, os⟩ := s; obtain ⟨hL, h⟩ := h; have hsub := sub_enumerate
      obtain ⟨⟨c, dct, dt, sl⟩, hl, hc, n, hd⟩ := id hL
      have hc : c = .type "tuple" := hc
      have hd : dt = .seq vs n := hd
      subst hc hd
      wp_walk using AutoSeq1.wpAny_loadPart' hl
      refine wpAny_stack_any fun st => wpAny_pure ?_; split
      · next c _ _ _ _ _ => cases (c == Value.type "enumerate") <;> (wp_walk using AutoSeq1.wpAny_loadPart' hl, wpAny_pyIter_tuple hL; exact ⟨_, rfl, h⟩)
      · wp_walk using AutoSeq1.wpAny_loadPart' hl, wpAny_pyIter_tuple hL; exact ⟨_, rfl, h⟩
  refine callType_new F.called_enumerate (by decide) (F.typeCall_enumerate_1 _) (F.newCall_enumerate_1 _) (fun obj => F.args_object_init_2 obj _) F.entry_enumerate_new mt ⟨hL, ?_⟩
  have hz : (s.heap.push { cls := .type "tuple_iterator", data := .fields #[.ref t, .int 0 0] }).objs.size = s.heap.objs.size + 1 := Heap.size_push ..
  show _ ∧ _; rw [hz]
  have he := Heap.get?_push_size (s.heap.push { cls := .type "tuple_iterator", data := .fields #[.ref t, .int 0 0] }) (o := { cls := .type "enumerate", data := .fields #[.none, .bool false, .ref s.heap.objs.size, rawInt 0, .none, .none] }) rfl
  rw [hz] at he
  exact ⟨⟨_, he, rfl⟩, h _ he ⟨_, Heap.get?_push_of_some _ (Heap.get?_push_size _ rfl), rfl, rfl⟩ (by rw [Heap.size_push, hz]) fun b o x => Heap.get?_push_of_some _ (Heap.get?_push_of_some _ x)⟩
end
/-- at turn i a new tuple (i, x), x out of a tuple -/
def IteT (K : PySem.W.Frag) (a : Addr) : It :=
  ⟨fun i H => ∃ xs x, SqT K H a xs ∧ xs[i]? = some x, fun i H v H' => ∃ x p, (∀ xs, SqT K H a xs → xs[i]? = some x) ∧ v = .ref p ∧ H p = none ∧ H' = upd H p (.tup [.int i, x]), fun i H => ∃ xs, SqT K H a xs ∧ xs.length = i⟩
theorem turn_enumT {P : Program} {w : World} {K : PySem.W.Frag} {elts : List Expr} {k : Nat} {pos : Pos} (a e it : Addr) (hne : e ≠ it) (hai : a ≠ it) (hae : e ≠ a) :
    Turn P w K (.Tuple elts k pos) (IteT K a) [e, it] e (fun i h => (∃ old, IsEnum h e it (i : Nat) old) ∧ h.IsTupleIter it a i) where
  mem := by simp
  obj := fun i h st b hb => by
    obtain ⟨⟨old, h1⟩, o, h2, h3, h4⟩ := st
    simp only [List.mem_cons, List.not_mem_nil, or_false] at hb
    rcases hb with rfl | rfl
    · exact ⟨_, h1, fun v y => by cases y⟩
    · exact ⟨o, h2, fun v y => by rw [h4] at y; cases y⟩
  keep := fun i h h' ⟨⟨old, z⟩, st2⟩ kk => ⟨⟨old, kk e (by simp) _ z⟩, st2.at fun o z => kk it (by simp) o z⟩
  item := by
    intro X hP hw hK hc i pins s σ H E I hf st hg
    subst hP hw hK
    obtain ⟨xs, x, hq, hx⟩ := hg
    obtain ⟨its, rv, p, hz⟩ := I.tuple hq
    obtain ⟨u, hu, ru⟩ := rv.get hx
    obtain ⟨⟨old, he⟩, hit⟩ := st
    have ltE : e < s.heap.objs.size := Heap.lt_size he
    have hlt : i < its.toArray.size := by have := (List.getElem?_eq_some_iff.mp hu).1; simpa using this
    refine wpAny_pyNext_enum_itemD (drawsT (A := X.A.in1) (show X.A.in1.handled = none from I.ok.hd hc) it a hai its.toArray) he ⟨hit, p⟩ hlt hne (by simp [hne, hae]) fun x' h' tk px ho ⟨hit', _⟩ hT hsz hk => ⟨.ref s.heap.objs.size, rfl, ?_⟩
    obtain rfl : x' = u := by
      have px : its.toArray[i]? = some x' := px
      have : its[i]? = some x' := by simpa using px
      rw [hu] at this
      exact (Option.some.inj this).symm
    refine wpAny_letOwnedTupleGo_enum ho fun h2 he2 sb => ?_
    have k2 : ∀ b o, b ∉ [e, it] → s.heap.get? b = some o → h2.get? b = some o := fun b o n z => by
      simp only [List.mem_cons, List.not_mem_nil, or_false, not_or] at n
      exact (sb.2 b n.1).trans (hk b o n.1 n.2 z)
    have hT2 : h2.get? s.heap.objs.size = some { cls := .type "tuple", data := .seq #[.int i tk, x'] } := (sb.2 _ (Nat.ne_of_gt ltE)).trans hT
    refine ⟨.ref s.heap.objs.size, upd H s.heap.objs.size (.tup [.int i, x]), I.turnNew (t' := tk + 1) hf k2 ⟨by show 2 ≤ sizeLine; decide, [.int i tk, x'], .cons ⟨_, rfl⟩ (.cons ru .nil), ⟨_, hT2, rfl, _, rfl⟩⟩, rfl, ⟨x, _, fun ys hy => by rw [I.tuple_inj hy hq]; exact hx, rfl, I.hok.fresh (Nat.le_refl _), rfl⟩, ⟨⟨x', by simpa using he2⟩, hit'.at fun o z => (sb.2 it hne.symm).trans z⟩, fun b hb => ?_⟩
    have there : ∃ o, s.heap.get? b = some o := by
      simp only [List.mem_cons, List.not_mem_nil, or_false] at hb
      rcases hb with rfl | rfl
      · exact ⟨_, he⟩
      · exact hit.imp fun o q => q.1
    obtain ⟨o, q⟩ := there
    rw [upd_ne (Nat.ne_of_lt (Heap.lt_size q))]
    exact (hf b hb).1
  done := by
    intro X hP hw hK hc i pins s σ H E I hf st hg
    subst hP hw hK
    obtain ⟨xs, hq, hx⟩ := hg
    obtain ⟨its, rv, p, hz⟩ := I.tuple hq
    obtain ⟨⟨old, he⟩, hit⟩ := st
    have hl := rv.length
    obtain ⟨f0, f1, f2, f3, f4, f5⟩ := hf it (by simp)
    have hn : i = its.toArray.size := by simp; omega
    exact wpAny_pyNext_enum_endD (drawsT (A := X.A.in1) (show X.A.in1.handled = none from I.ok.hd hc) it a hai its.toArray) he ⟨hn ▸ hit, p⟩ fun h' eb => ⟨rfl, I.turned (t' := s.toks) (fun b o hb z => eb b o hb z) f0 f1 f3 f4 f5⟩
  self := fun _ _ _ _ _ st h => let ⟨⟨_, z⟩, _⟩ := st; wpAny_pyIter_enum z h
section
variable {X : Cx} {elts : List Expr} {k : Nat} {tpos p pos : Pos} {e : Expr} {te : TE}
def iEnumT (K : PySem.W.Frag) (tl : TE) : TI := fun σ H R => tl σ H fun x H1 => ∃ a, x = .ref a ∧ (∃ xs, SqT K H1 a xs) ∧ R (IteT K a) H1
theorem pi_enumT (hg : Gl X "enumerate") (hm : X.mg "enumerate" = none) (hl : PE X e te) (he : starEach [e] X.env = [(false, eval e X.env)] := by rfl) : PI X (.Tuple elts k tpos) (.Call (.Name "enumerate" p) [e] [] pos) (iEnumT X.K te) := by
  intro pins s σ H R I h
  refine wpAny_Call_Name_kw (ld_blt I hg hm boot_enumerate ?_)
  refine PyProof.Rows.callWith_type1 (thn ((pa_cons hl pa_nil he) _ pins s σ H (fun vs H1 => match vs with | [x] => (∃ a, x = .ref a ∧ (∃ xs, SqT X.K H1 a xs) ∧ R (IteT X.K a) H1) | _ => False) I h) fun us s1 ⟨vs, H1, I1, r1, q1⟩ => ?_) he (by rfl)
  match vs, q1, r1 with
  | [x], q1, r1 =>
  obtain ⟨a, rfl, ⟨xs, hq⟩, q⟩ := q1
  obtain ⟨u, rfl, ru⟩ := vals1 r1
  obtain rfl : u = Value.ref a := ru
  obtain ⟨its, rv, pl, hz⟩ := I1.tuple hq
  have la : a < s1.heap.objs.size := let ⟨_, q, _⟩ := pl; Heap.lt_size q
  refine call_enumT (show s1.heap.IsTuple a its.toArray from pl) fun h' hen hit hsz hk => ?_
  refine wpAny_pyIter_enum hen ?_
  refine ⟨_, [_, _], _, _, H1, rfl, I1.kept (t' := s1.toks) hk, turn_enumT a _ _ (Nat.ne_of_gt (Nat.lt_succ_self _)) (Nat.ne_of_lt la) (Nat.ne_of_gt (Nat.lt_succ_of_lt la)), ⟨⟨_, by simpa using hen⟩, hit⟩, fun b hb => ?_, q⟩
  have fr : ∀ b, s1.heap.objs.size ≤ b → FpOk X pins H1 b := fun b z => I1.fpOk z (I1.hok.fresh z)
  simp only [List.mem_cons, List.not_mem_nil, or_false] at hb
  rcases hb with rfl | rfl <;> exact fr _ (by omega)
end
/-- over a tuple -/
theorem for_enumT {K : PySem.W.Frag} {a : Addr} {xs : List V} {g : TG} {tb : TS} {D : Ends} {σ : St} {H : Hp} (Pv : Nat → St → Hp → Prop) (h0 : Pv 0 σ H) (hl : ∀ i σ H, i ≤ xs.length → Pv i σ H → SqT K H a xs)
    (hs : ∀ i x σ H p, xs[i]? = some x → Pv i σ H → H p = none → g (.ref p) σ (upd H p (.tup [.int i, x])) fun σ2 H2 => tb { D with nx := Pv (i + 1), ct := Pv (i + 1), bk := D.nx } σ2 H2) (hd : ∀ σ H, Pv xs.length σ H → D.nx σ H) :
    ∃ W : Nat → Nat → St → Hp → Prop, (∃ m, W 0 m σ H) ∧ ∀ i m σ H, W i m σ H →
      ((IteT K a).stop i H ∧ D.nx σ H) ∨ ((IteT K a).go i H ∧ ∃ N : St → Hp → Prop, (∀ σ' H', N σ' H' → ∃ m', m' < m ∧ W (i + 1) m' σ' H') ∧ ∀ x H', (IteT K a).yld i H x H' → g x σ H' fun σ2 H2 => tb { D with nx := N, ct := N, bk := D.nx } σ2 H2) := by
  refine ⟨fun i m σ H => m = xs.length - i ∧ i ≤ xs.length ∧ Pv i σ H, ⟨xs.length, by simp, Nat.zero_le _, h0⟩, ?_⟩
  rintro i m σ H ⟨rfl, hi, p⟩
  have q := hl i σ H hi p
  by_cases hlt : i < xs.length
  · refine .inr ⟨⟨xs, xs[i], q, by simp [hlt]⟩, Pv (i + 1), fun σ' H' p' => ⟨xs.length - (i + 1), by omega, rfl, hlt, p'⟩, fun x H' y => ?_⟩
    obtain ⟨z, pp, e1, e2, e3, e4⟩ := y
    subst e2 e4
    exact hs i z σ H pp (e1 xs q) p e3
  · obtain rfl : i = xs.length := by omega
    exact .inl ⟨⟨xs, q, rfl⟩, hd σ H p⟩
theorem comp_enumT {K : PySem.W.Frag} {a : Addr} {xs : List V} {own : Nat} {js : List Nat} {g : TG} {ti : TT} {te : TE} {σ : St} {H1 : Hp} {acc : Addr} {Q : VK} (Pv : Nat → Hp → Prop) (h0 : Pv 0 (upd H1 acc (.lst []))) (hl : ∀ i H2, i ≤ xs.length → Pv i H2 → SqT K H2 a xs)
    (hs : ∀ i x H2 p, xs[i]? = some x → Pv i H2 → H2 p = none → g (.ref p) (capt own js σ) (upd H2 p (.tup [.int i, x])) fun σ4 H4 => ti σ4 H4 fun b H5 => if b = true then te σ4 H5 fun y H6 => rAppend (.ref acc) [y] H6 fun _ H7 => Pv (i + 1) H7 else Pv (i + 1) H5) (hd : ∀ H2, Pv xs.length H2 → Q (.ref acc) H2)
    (mono : ∀ σ H (R R' : St → Hp → Prop) x, (∀ σ' H', R σ' H' → R' σ' H') → g x σ H R → g x σ H R') (monoT : ∀ σ H (R R' : Bool → Hp → Prop), (∀ b H', R b H' → R' b H') → ti σ H R → ti σ H R') (monoE : ∀ σ H (R R' : VK), (∀ v H', R v H' → R' v H') → te σ H R → te σ H R') :
    CompW (IteT K a) own js g ti te σ H1 acc Q := by
  refine ⟨fun i m H2 => m = xs.length - i ∧ i ≤ xs.length ∧ Pv i H2, ⟨xs.length, by simp, Nat.zero_le _, h0⟩, ?_⟩
  rintro i m H2 ⟨rfl, hi, p⟩
  have qa := hl i H2 hi p
  by_cases hlt : i < xs.length
  · refine .inr ⟨⟨xs, xs[i], qa, by simp [hlt]⟩, fun v H3 z => ?_⟩
    obtain ⟨x, pp, e1, e3, e4, e5⟩ := z
    subst e3 e5
    refine mono _ _ _ _ _ (fun σ4 H4 q => monoT _ _ _ _ (fun b H5 q => ?_) q) (hs i x _ pp (e1 xs qa) p e4)
    cases b with
    | true =>
      refine monoE _ _ _ _ (fun v H6 q => ?_) q
      obtain ⟨l, zs, y, a1, a2, a3, a4, a5⟩ := q
      exact ⟨l, zs, y, a1, a2, a3, a4, _, by omega, rfl, hlt, a5⟩
    | false => exact ⟨_, by omega, rfl, hlt, q⟩
  · obtain rfl : i = xs.length := by omega
    exact .inl ⟨⟨xs, qa, rfl⟩, hd H2 p⟩
theorem comp_enumL {K : PySem.W.Frag} {a : Addr} {xs : List V} {own : Nat} {js : List Nat} {g : TG} {ti : TT} {te : TE} {σ : St} {H1 : Hp} {acc : Addr} {Q : VK} (Pv : Nat → Hp → Prop) (h0 : Pv 0 (upd H1 acc (.lst []))) (hl : ∀ i H2, i ≤ xs.length → Pv i H2 → SqL K H2 a xs)
    (hs : ∀ i x H2 p, xs[i]? = some x → Pv i H2 → H2 p = none → g (.ref p) (capt own js σ) (upd H2 p (.tup [.int i, x])) fun σ4 H4 => ti σ4 H4 fun b H5 => if b = true then te σ4 H5 fun y H6 => rAppend (.ref acc) [y] H6 fun _ H7 => Pv (i + 1) H7 else Pv (i + 1) H5) (hd : ∀ H2, Pv xs.length H2 → Q (.ref acc) H2)
    (mono : ∀ σ H (R R' : St → Hp → Prop) x, (∀ σ' H', R σ' H' → R' σ' H') → g x σ H R → g x σ H R') (monoT : ∀ σ H (R R' : Bool → Hp → Prop), (∀ b H', R b H' → R' b H') → ti σ H R → ti σ H R') (monoE : ∀ σ H (R R' : VK), (∀ v H', R v H' → R' v H') → te σ H R → te σ H R') :
    CompW (Ite K a) own js g ti te σ H1 acc Q := by
  refine ⟨fun i m H2 => m = xs.length - i ∧ i ≤ xs.length ∧ Pv i H2, ⟨xs.length, by simp, Nat.zero_le _, h0⟩, ?_⟩
  rintro i m H2 ⟨rfl, hi, p⟩
  have qa := hl i H2 hi p
  by_cases hlt : i < xs.length
  · refine .inr ⟨⟨xs, xs[i], qa, by simp [hlt]⟩, fun v H3 z => ?_⟩
    obtain ⟨x, pp, e1, e3, e4, e5⟩ := z
    subst e3 e5
    refine mono _ _ _ _ _ (fun σ4 H4 q => monoT _ _ _ _ (fun b H5 q => ?_) q) (hs i x _ pp (e1 xs qa) p e4)
    cases b with
    | true =>
      refine monoE _ _ _ _ (fun v H6 q => ?_) q
      obtain ⟨l, zs, y, a1, a2, a3, a4, a5⟩ := q
      exact ⟨l, zs, y, a1, a2, a3, a4, _, by omega, rfl, hlt, a5⟩
    | false => exact ⟨_, by omega, rfl, hlt, q⟩
  · obtain rfl : i = xs.length := by omega
    exact .inl ⟨⟨xs, qa, Nat.le_refl _⟩, hd H2 p⟩
theorem call_sumT {X : Cx} (hc : X.calm = true) : CallR X (.builtin "sum") (fun xs H Q => ∃ (p : Addr) (ns : List Int), xs = [.ref p] ∧ SqT X.K H p (ns.map V.int) ∧ Q (.int ns.sum) H) := by
  intro pins s σ H xs us Q I r h
  obtain ⟨p, ns, rfl, hq, q⟩ := h
  obtain ⟨u, rfl, rx⟩ := vals1 r
  cases rx
  obtain ⟨its, r', pl, hz⟩ := I.tuple hq
  have hi : IntsAre its ns := intsAre_of r'
  obtain ⟨ys, e⟩ := hi.allInts.items
  have hl : s.heap.IsTuple p its.toArray := pl
  rw [e] at hl
  have n1 := hi.numsOf
  rw [show its = its.toArray.toList from rfl, e, nums_intItems] at n1
  have lt : p < s.heap.objs.size := let ⟨_, q, _⟩ := hl; Heap.lt_size q
  refine call_sum_walkG (wpAny_pyIter_tuple hl ?_)
  refine ⟨_, _, _, _, _, _, numAt ys, rfl, Walks.tuple (A := X.A.in1) (show X.A.in1.handled = none from I.ok.hd hc) _ p (Nat.ne_of_lt lt) (intItems ys), ⟨⟨_, Heap.get?_push_size _ rfl, rfl, rfl⟩, hl.push _⟩, fun b hb => ?_, fun _ _ => intItems_at, fun h' tk t' hk => ?_⟩
  · simp only [List.mem_cons, List.not_mem_nil, or_false] at hb
    rw [Heap.size_push]
    rcases hb with rfl | rfl
    · exact Nat.lt_succ_self _
    · exact Nat.lt_succ_of_lt lt
  · refine ⟨.int ns.sum, H, I.kept fun b o z => hk b o (fun y => ?_) (Heap.get?_push_of_some _ z), ⟨t', ?_⟩, q⟩
    · simp only [List.mem_cons, List.not_mem_nil, or_false] at y
      exact absurd (Heap.lt_size z) (by rw [y]; exact Nat.lt_irrefl _)
    · rw [preSum_eq, List.take_of_length_le (by simp [intItems]), n1]
section
variable {prog : Program} {w : World} {A : Around} {E : Value → Shared → Prop} {s : Shared}
theorem zipT_item {z TI TO i1 i2 l1 l2 : Addr} {k1 k2 : Nat} {xs ys : Array Value} {x y a b : Value} {Q : Option Value → Shared → Prop} (D : ZipApart z TI TO i1 i2 l1 l2) (hz : IsZip s.heap z TI TO .none) (hTI : IsPair s.heap TI (.ref i1) (.ref i2)) (hTO : IsPair s.heap TO a b)
    (h1 : s.heap.IsTupleIter i1 l1 k1) (h2 : s.heap.IsTupleIter i2 l2 k2) (hl1 : s.heap.IsTuple l1 xs) (hl2 : s.heap.IsTuple l2 ys) (hx : xs[k1]? = some x) (hy : ys[k2]? = some y)
    (hQ : ∀ h', IsZip h' z TI TO (rawInt s.heap.objs.size) → IsPair h' TO x y → h'.IsTupleIter i1 l1 (k1 + 1) → h'.IsTupleIter i2 l2 (k2 + 1) → IsPair h' s.heap.objs.size x y → h'.objs.size = s.heap.objs.size + 1 → (∀ c o, c ≠ z → c ≠ TO → c ≠ i1 → c ≠ i2 → s.heap.get? c = some o → h'.get? c = some o) → Q (some (.ref s.heap.objs.size)) { s with heap := h' }) :
    wpAny (model prog w) A (pyNext (.ref z)) Q E s := by
  have hT : s.TypeIs (.ref z) "zip" := ⟨_, hz, rfl⟩; unfold pyNext; refine wpAny_bind (wpAny_attempt (wpAny_callSpecial?_slot (name := Str.ofString "__next__") hT F.slot_zip_next (wpAny_call_entry F.slot_zip_next hT F.entry_zip_next ?_ (F.args_zip_next_1 _))))
  show wpAny _ _ (field (.ref z) 2 >>= _) _ _ _; refine wpAny_bind (wpAny_field hz rfl (x := .bool false) rfl ?_); show wpAny _ _ (field (.ref z) 3 >>= _) _ _ _; refine wpAny_bind (wpAny_field hz rfl (x := .ref TI) rfl (wpAny_bind (wpAny_seqItems hTI rfl ?_)))
  show wpAny _ _ (Builtin.SmallTypes.ownedTupleIsFree (.ref z) >>= _) _ _ _; refine wpAny_bind ?_; unfold Builtin.SmallTypes.ownedTupleIsFree; refine wpAny_bind (wpAny_field hz rfl (x := .none) rfl (wpAny_pure ?_)); simp only [if_true]
  refine wpAny_bind (wpAny_rule (wpAny_bind (wpAny_field hz rfl (x := .ref TO) rfl (wpAny_bind (wpAny_setField_rec hz (by simp) fun a1 hz1 s1 => ?_)))))
  have hz1 : IsZip a1 z TI TO .ellipsis := hz1
  refine wpAny_bind ?_; simp only [List.zipIdx_cons, List.zipIdx_nil, List.forIn_cons, List.forIn_nil]; refine wpAny_bind (wpAny_bind (wpAny_onRaise ?_)); show wpAny _ _ (Builtin.SmallTypes.nextOf (.ref i1) >>= _) _ _ _
  refine wpAny_bind (nextT_item (h1.extBut s1.extBut D.i1z) (hl1.extBut s1.extBut D.l1z) hx fun a2 g1 s2 => wpAny_pure ?_)
  have o2 : IsPair a2 TO a b := s2.extBut _ _ D.TOi1 (s1.extBut _ _ D.TOz hTO)
  refine wpAny_bind (wpAny_seqItems o2 rfl (wpAny_bind (wpAny_updateSeq_pair o2 fun a3 o3 s3 => ?_)))
  have o3 : IsPair a3 TO x b := o3
  refine wpAny_bind (wpAny_letGo (wpAny_pure ?_)); refine wpAny_bind (wpAny_bind (wpAny_onRaise ?_)); show wpAny _ _ (Builtin.SmallTypes.nextOf (.ref i2) >>= _) _ _ _
  refine wpAny_bind (nextT_item (((h2.extBut s1.extBut D.i2z).extBut s2.extBut D.i12.symm).extBut s3.extBut D.TOi2.symm) (((hl2.extBut s1.extBut D.l2z).extBut s2.extBut D.l2i1).extBut s3.extBut D.l2TO) hy fun a4 g2 s4 => wpAny_pure ?_)
  have o4 : IsPair a4 TO x b := s4.extBut _ _ D.TOi2 o3
  refine wpAny_bind (wpAny_seqItems o4 rfl (wpAny_bind (wpAny_updateSeq_pair o4 fun a5 o5 s5 => ?_)))
  have o5 : IsPair a5 TO x y := o5
  refine wpAny_bind (wpAny_letGo (wpAny_pure (wpAny_pure ?_))); refine wpAny_bind (wpAny_seqItems o5 rfl (wpAny_bind (wpAny_newTuple ?_)))
  have sz : a5.objs.size = s.heap.objs.size := by rw [s5.1, s4.1, s3.1, s2.1, s1.1]
  have z5 : IsZip a5 z TI TO .ellipsis := s5.extBut _ _ D.TOz.symm (s4.extBut _ _ D.i2z.symm (s3.extBut _ _ D.TOz.symm (s2.extBut _ _ D.i1z.symm hz1)))
  have k5 : ∀ c o, c ≠ z → c ≠ TO → c ≠ i1 → c ≠ i2 → s.heap.get? c = some o → a5.get? c = some o := fun c o c1 c2 c3 c4 e => s5.extBut _ _ c2 (s4.extBut _ _ c4 (s3.extBut _ _ c2 (s2.extBut _ _ c3 (s1.extBut _ _ c1 e))))
  have m1 : a5.IsTupleIter i1 l1 (k1 + 1) := ((g1.extBut s3.extBut D.TOi1.symm).extBut s4.extBut D.i12).extBut s5.extBut D.TOi1.symm
  have m2 : a5.IsTupleIter i2 l2 (k2 + 1) := g2.extBut s5.extBut D.TOi2.symm
  have zl : z < a5.objs.size := Heap.lt_size z5
  show wpAny _ _ (Builtin.SmallTypes.ownedTupleHandOut (.ref z) (.ref a5.objs.size) >>= _) _ _ _; refine wpAny_bind ?_; unfold Builtin.SmallTypes.ownedTupleHandOut
  have z6 : IsZip (a5.push { cls := .type "tuple", data := .seq #[x, y] }) z TI TO .ellipsis := Heap.get?_push_of_some _ z5
  refine wpAny_bind (wpAny_setField_rec z6 (by simp) fun a7 z7 s7 => ?_)
  have z7 : IsZip a7 z TI TO (rawInt a5.objs.size) := z7
  refine wpAny_setField_rec z7 (by simp) fun a8 z8 s8 => ?_
  have z8 : IsZip a8 z TI TO (rawInt a5.objs.size) := z8
  have up : ∀ c o, c ≠ z → a5.get? c = some o → a8.get? c = some o := fun c o c1 e => s8.extBut _ _ c1 (s7.extBut _ _ c1 (Heap.get?_push_of_some _ e))
  have t8 : IsPair a8 a5.objs.size x y := s8.extBut _ _ (Nat.ne_of_gt zl) (s7.extBut _ _ (Nat.ne_of_gt zl) (Heap.get?_push_size _ rfl))
  have e8 : a8.objs.size = a5.objs.size + 1 := by rw [s8.1, s7.1, Heap.size_push]
  rw [sz] at z8 t8 e8
  refine wpAny_pure ⟨_, rfl, wpAny_pure ?_⟩; show Q (some (.ref a5.objs.size)) _; rw [sz]
  exact hQ a8 z8 (up _ _ D.TOz o5) (m1.at fun o e => up _ o D.i1z e) (m2.at fun o e => up _ o D.i2z e) t8 e8 fun c o c1 c2 c3 c4 e => up c o c1 (k5 c o c1 c2 c3 c4 e)
theorem zipT_end {z TI TO i1 i2 l1 l2 : Addr} {k1 : Nat} {xs : Array Value} {a b : Value} {Q : Option Value → Shared → Prop} (hh : A.handled = none) (D : ZipApart z TI TO i1 i2 l1 l2) (hz : IsZip s.heap z TI TO .none) (hTI : IsPair s.heap TI (.ref i1) (.ref i2)) (hTO : IsPair s.heap TO a b)
    (h1 : s.heap.IsTupleIter i1 l1 k1) (hl1 : s.heap.IsTuple l1 xs) (hx : xs[k1]? = none) (hQ : ∀ h', (∀ c o, c ≠ z → c ≠ TO → c ≠ i1 → c ≠ i2 → s.heap.get? c = some o → h'.get? c = some o) → Q none { s with heap := h' }) : wpAny (model prog w) A (pyNext (.ref z)) Q E s := by
  have hT : s.TypeIs (.ref z) "zip" := ⟨_, hz, rfl⟩; unfold pyNext; refine wpAny_bind (wpAny_attempt (wpAny_callSpecial?_slot (name := Str.ofString "__next__") hT F.slot_zip_next (wpAny_call_entry F.slot_zip_next hT F.entry_zip_next ?_ (F.args_zip_next_1 _))))
  show wpAny _ _ (field (.ref z) 2 >>= _) _ _ _; refine wpAny_bind (wpAny_field hz rfl (x := .bool false) rfl ?_); show wpAny _ _ (field (.ref z) 3 >>= _) _ _ _; refine wpAny_bind (wpAny_field hz rfl (x := .ref TI) rfl (wpAny_bind (wpAny_seqItems hTI rfl ?_)))
  show wpAny _ _ (Builtin.SmallTypes.ownedTupleIsFree (.ref z) >>= _) _ _ _; refine wpAny_bind ?_; unfold Builtin.SmallTypes.ownedTupleIsFree; refine wpAny_bind (wpAny_field hz rfl (x := .none) rfl (wpAny_pure ?_)); simp only [if_true]
  refine wpAny_bind (wpAny_rule (wpAny_bind (wpAny_field hz rfl (x := .ref TO) rfl (wpAny_bind (wpAny_setField_rec hz (by simp) fun a1 hz1 s1 => ?_)))))
  have hz1 : IsZip a1 z TI TO .ellipsis := hz1
  refine wpAny_bind ?_; simp only [List.zipIdx_cons, List.zipIdx_nil, List.forIn_cons, List.forIn_nil]; refine wpAny_bind (wpAny_bind (wpAny_onRaise ?_)); show wpAny _ _ (Builtin.SmallTypes.nextOf (.ref i1) >>= _) _ _ _
  refine wpAny_bind (nextT_end hh (h1.extBut s1.extBut D.i1z) (hl1.extBut s1.extBut D.l1z) hx fun a2 e s2 he => ?_)
  obtain ⟨oe, hoe, hce⟩ := he
  have z2 : IsZip a2 z TI TO .ellipsis := s2 _ _ D.i1z.symm hz1
  have ez : e ≠ z := fun x => by subst x; rw [z2] at hoe; cases hoe; simp at hce
  refine wpAny_setField_rec z2 (by simp) fun a3 _ s3 => ?_
  refine wpAny_bind (wpAny_isInstance (T := "StopIteration") (b := true) ⟨oe, s3.extBut _ _ ez hoe, hce⟩ isSubtype_stop (wpAny_pure (hQ _ fun c o c1 _ c3 _ x => s3.extBut _ _ c1 (s2 _ _ c3 (s1.extBut _ _ c1 x)))))
end
section
variable {prog : Program} {w : World} {A : Around} {E : Value → Shared → Prop} {s : Shared}
abbrev tz1 (h : Heap) (a : Addr) : Heap := h.push { cls := .type "tuple_iterator", data := .fields #[.ref a, .int 0 0] }
abbrev tz2 (h : Heap) (a b : Addr) : Heap := (tz1 h a).push { cls := .type "tuple_iterator", data := .fields #[.ref b, .int 0 0] }
abbrev tz3 (h : Heap) (a b : Addr) : Heap := (tz2 h a b).push { cls := .type "tuple", data := .seq #[.ref h.objs.size, .ref (tz1 h a).objs.size] }
abbrev tz4 (h : Heap) (a b : Addr) : Heap := (tz3 h a b).push { cls := .type "tuple", data := .seq #[.none, .none] }
abbrev tz5 (h : Heap) (a b : Addr) : Heap := (tz4 h a b).push { cls := .type "zip", data := .fields #[.none, .bool false, .bool false, .ref (tz2 h a b).objs.size, .ref (tz3 h a b).objs.size] }
theorem call_zipT {a b : Addr} {xs ys : Array Value} {Q : Value → Shared → Prop} (ha : s.heap.IsTuple a xs) (hb : s.heap.IsTuple b ys)
    (h : ∀ h', IsZip h' (s.heap.objs.size + 4) (s.heap.objs.size + 2) (s.heap.objs.size + 3) .none → IsPair h' (s.heap.objs.size + 2) (.ref s.heap.objs.size) (.ref (s.heap.objs.size + 1)) → IsPair h' (s.heap.objs.size + 3) .none .none → h'.IsTupleIter s.heap.objs.size a 0 → h'.IsTupleIter (s.heap.objs.size + 1) b 0 → (∀ c o, s.heap.get? c = some o → h'.get? c = some o) → Q (.ref (s.heap.objs.size + 4)) { s with heap := h' }) :
    wpAny (model prog w) A (call (.type "zip") [.ref a, .ref b]) Q E s := by
  have mt : Meets (Builtin.«zip.__new__» ⟨[.type "zip", .ref a, .ref b], []⟩) (fun _ R s => s.heap.IsTuple a xs ∧ s.heap.IsTuple b ys ∧ R (.ok (.ret (.ref (tz4 s.heap a b).objs.size))) { s with heap := tz5 s.heap a b }) :=
    .of_wp fun prog w A R s h => by
      obtain ⟨hp, g, d, tk, os⟩ := s; obtain ⟨h1, h2, h⟩ := h; have hsub := sub_zip
      have hL1 : Heap.IsTuple (Shared.heap ⟨hp, g, d, tk, os⟩) a xs := h1
      have hL2 : Heap.IsTuple (Shared.heap ⟨hp.push { cls := .type "tuple_iterator", data := .fields #[.ref a, .int 0 0] }, g, d, tk, os⟩) b ys := Heap.IsTuple.push h2 _
      wp_walk using wpAny_pyIter_tuple hL1, wpAny_pyIter_tuple hL2
      exact ⟨_, rfl, h⟩
  refine callType_new F.called_zip (by decide) (F.typeCall_zip_2 _ _) (F.newCall_zip_2 _ _) (fun obj => F.args_object_init_3 obj _ _) F.entry_zip_new mt ⟨ha, hb, ?_⟩
  have z1 : (tz1 s.heap a).objs.size = s.heap.objs.size + 1 := Heap.size_push ..
  have z2 : (tz2 s.heap a b).objs.size = s.heap.objs.size + 2 := by rw [Heap.size_push, z1]
  have z3 : (tz3 s.heap a b).objs.size = s.heap.objs.size + 3 := by rw [Heap.size_push, z2]
  have z4 : (tz4 s.heap a b).objs.size = s.heap.objs.size + 4 := by rw [Heap.size_push, z3]
  have g5 : (tz5 s.heap a b).get? (tz4 s.heap a b).objs.size = some _ := Heap.get?_push_size _ rfl
  have g4 : (tz5 s.heap a b).get? (tz3 s.heap a b).objs.size = some _ := Heap.get?_push_of_some _ (Heap.get?_push_size _ rfl)
  have g3 : (tz5 s.heap a b).get? (tz2 s.heap a b).objs.size = some _ := Heap.get?_push_of_some _ (Heap.get?_push_of_some _ (Heap.get?_push_size _ rfl))
  have g2 : (tz5 s.heap a b).get? (tz1 s.heap a).objs.size = some _ := Heap.get?_push_of_some _ (Heap.get?_push_of_some _ (Heap.get?_push_of_some _ (Heap.get?_push_size _ rfl)))
  have g1 : (tz5 s.heap a b).get? s.heap.objs.size = some _ := Heap.get?_push_of_some _ (Heap.get?_push_of_some _ (Heap.get?_push_of_some _ (Heap.get?_push_of_some _ (Heap.get?_push_size _ rfl))))
  show _ ∧ _; rw [z2, z3, z4] at g5; rw [z1, z2] at g3; rw [z3] at g4; rw [z1] at g2; rw [z4]
  exact ⟨⟨_, g5, rfl⟩, h _ g5 g3 g4 ⟨_, g1, rfl, rfl⟩ ⟨_, g2, rfl, rfl⟩ fun c o x => Heap.get?_push_of_some _ (Heap.get?_push_of_some _ (Heap.get?_push_of_some _ (Heap.get?_push_of_some _ (Heap.get?_push_of_some _ x))))⟩
end
/-- at turn i a new tuple (x, y), out of two tuples of one length -/
def ItzT (K : PySem.W.Frag) (a b : Addr) : It :=
  ⟨fun i H => ∃ xs x ys y, SqT K H a xs ∧ SqT K H b ys ∧ xs[i]? = some x ∧ ys[i]? = some y,
   fun i H v H' => ∃ x y p, (∀ xs, SqT K H a xs → xs[i]? = some x) ∧ (∀ ys, SqT K H b ys → ys[i]? = some y) ∧ v = .ref p ∧ H p = none ∧ H' = upd H p (.tup [x, y]),
   fun i H => ∃ xs, SqT K H a xs ∧ xs.length ≤ i⟩
theorem turn_zipT {P : Program} {w : World} {K : PySem.W.Frag} {elts : List Expr} {k : Nat} {pos : Pos} {z TI TO i1 i2 a b : Addr} (D : ZipApart z TI TO i1 i2 a b) :
    Turn P w K (.Tuple elts k pos) (ItzT K a b) [z, TI, TO, i1, i2] z (fun i h => IsZip h z TI TO .none ∧ IsPair h TI (.ref i1) (.ref i2) ∧ (∃ x y, IsPair h TO x y) ∧ h.IsTupleIter i1 a i ∧ h.IsTupleIter i2 b i) where
  mem := by simp
  obj := fun i h st c hc => by
    obtain ⟨h1, h2, ⟨x, y, h3⟩, ⟨o4, h4, _, d4⟩, ⟨o5, h5, _, d5⟩⟩ := st
    simp only [List.mem_cons, List.not_mem_nil, or_false] at hc
    rcases hc with rfl | rfl | rfl | rfl | rfl
    · exact ⟨_, h1, fun v q => by cases q⟩
    · exact ⟨_, h2, fun v q => by cases q⟩
    · exact ⟨_, h3, fun v q => by cases q⟩
    · exact ⟨_, h4, fun v q => by rw [d4] at q; cases q⟩
    · exact ⟨_, h5, fun v q => by rw [d5] at q; cases q⟩
  keep := fun i h h' st kk => ⟨kk z (by simp) _ st.1, kk TI (by simp) _ st.2.1, st.2.2.1.imp fun x q => q.imp fun y q => kk TO (by simp) _ q, st.2.2.2.1.at fun o q => kk i1 (by simp) o q, st.2.2.2.2.at fun o q => kk i2 (by simp) o q⟩
  item := by
    intro X hP hw hK hc i pins s σ H E I hf st hg
    subst hP hw hK
    obtain ⟨xs, x, ys, y, hqa, hqb, hx, hy⟩ := hg
    obtain ⟨as, ra, pa, za⟩ := I.tuple hqa
    obtain ⟨bs, rb, pb, zb⟩ := I.tuple hqb
    obtain ⟨u, hu, ru⟩ := ra.get hx
    obtain ⟨v, hv, rv⟩ := rb.get hy
    obtain ⟨hz, hTI, ⟨_, _, hTO⟩, h1, h2⟩ := st
    have ltz : z < s.heap.objs.size := Heap.lt_size hz
    refine zipT_item D hz hTI hTO h1 h2 (show s.heap.IsTuple a as.toArray from pa) (show s.heap.IsTuple b bs.toArray from pb) (x := u) (y := v) (by simpa using hu) (by simpa using hv) fun h' hz' hTO' h1' h2' hT hsz hk => ⟨.ref s.heap.objs.size, rfl, ?_⟩
    refine wpAny_letOwnedTupleGo_zip hz' fun h3 hz3 sb => ?_
    have kk : ∀ c o, c ∉ [z, TI, TO, i1, i2] → s.heap.get? c = some o → h3.get? c = some o := fun c o n e => by
      simp only [List.mem_cons, List.not_mem_nil, or_false, not_or] at n
      exact (sb.2 c n.1).trans (hk c o n.1 n.2.2.1 n.2.2.2.1 n.2.2.2.2 e)
    have hT3 : h3.get? s.heap.objs.size = some { cls := .type "tuple", data := .seq #[u, v] } := (sb.2 _ (Nat.ne_of_gt ltz)).trans hT
    have hTI3 : IsPair h3 TI (.ref i1) (.ref i2) := (sb.2 _ D.TIz).trans (hk _ _ D.TIz D.TITO D.TIi1 D.TIi2 hTI)
    refine ⟨.ref s.heap.objs.size, upd H s.heap.objs.size (.tup [x, y]), I.turnNew (t' := s.toks) hf kk ⟨by show 2 ≤ sizeLine; decide, [u, v], .cons ru (.cons rv .nil), ⟨_, hT3, rfl, _, rfl⟩⟩, rfl,
      ⟨x, y, _, fun zs hy' => by rw [I.tuple_inj hy' hqa]; exact hx, fun zs hy' => by rw [I.tuple_inj hy' hqb]; exact hy, rfl, I.hok.fresh (Nat.le_refl _), rfl⟩,
      ⟨hz3, hTI3, ⟨_, _, (sb.2 _ D.TOz).trans hTO'⟩, h1'.at fun o q => (sb.2 _ D.i1z).trans q, h2'.at fun o q => (sb.2 _ D.i2z).trans q⟩, fun c hc => ?_⟩
    have there : ∃ o, s.heap.get? c = some o := by
      simp only [List.mem_cons, List.not_mem_nil, or_false] at hc
      rcases hc with rfl | rfl | rfl | rfl | rfl
      · exact ⟨_, hz⟩
      · exact ⟨_, hTI⟩
      · exact ⟨_, hTO⟩
      · exact h1.imp fun o q => q.1
      · exact h2.imp fun o q => q.1
    obtain ⟨o, q⟩ := there
    rw [upd_ne (Nat.ne_of_lt (Heap.lt_size q))]
    exact (hf c hc).1
  done := by
    intro X hP hw hK hc i pins s σ H E I hf st hg
    subst hP hw hK
    obtain ⟨xs, hqa, hx⟩ := hg
    obtain ⟨as, ra, pa, za⟩ := I.tuple hqa
    obtain ⟨hz, hTI, ⟨_, _, hTO⟩, h1, h2⟩ := st
    have la := ra.length
    refine zipT_end (I.ok.hd hc) D hz hTI hTO h1 (show s.heap.IsTuple a as.toArray from pa) (by simp; omega) fun h' hk => ⟨rfl, I.turnAll (t' := s.toks) hf fun c o n e => ?_⟩
    simp only [List.mem_cons, List.not_mem_nil, or_false, not_or] at n
    exact hk c o n.1 n.2.2.1 n.2.2.2.1 n.2.2.2.2 e
  self := fun _ _ _ _ _ st h => wpAny_pyIter_zip st.1 h
section
variable {X : Cx} {elts : List Expr} {k : Nat} {tpos p pos : Pos} {e f : Expr} {te tf : TE}
def iZipT (K : PySem.W.Frag) (ta : TA) : TI := fun σ H R => ta σ H fun vs H1 => ∃ a b, vs = [.ref a, .ref b] ∧ (∃ xs, SqT K H1 a xs) ∧ (∃ ys, SqT K H1 b ys) ∧ R (ItzT K a b) H1
theorem pi_zipT {ta : TA} (hg : Gl X "zip") (hm : X.mg "zip" = none) (hl : PA X [e, f] ta) (he : starEach [e, f] X.env = (false, eval e X.env) :: starEach [f] X.env := by rfl) (hp : (backTo pos (starEach [f] X.env)).any (·.1) = false := by rfl) :
    PI X (.Tuple elts k tpos) (.Call (.Name "zip" p) [e, f] [] pos) (iZipT X.K ta) := by
  intro pins s σ H R I h
  refine wpAny_Call_Name_kw (ld_blt I hg hm PyProof.Rows.Boot.«zip» ?_)
  refine PyProof.Rows.callWith_type1 (thn (hl _ pins s σ H _ I h) fun us s1 ⟨vs, H1, I1, r1, a, b, ev, ⟨xs, hqa⟩, ⟨ys, hqb⟩, q⟩ => ?_) he hp
  subst ev
  obtain ⟨u, v, rfl, ru, rv⟩ := vals2 r1
  obtain rfl : u = Value.ref a := ru
  obtain rfl : v = Value.ref b := rv
  obtain ⟨as, ra, pa, za⟩ := I1.tuple hqa
  obtain ⟨bs, rb, pb, zb⟩ := I1.tuple hqb
  have la : a < s1.heap.objs.size := let ⟨_, q, _⟩ := pa; Heap.lt_size q
  have lb : b < s1.heap.objs.size := let ⟨_, q, _⟩ := pb; Heap.lt_size q
  refine call_zipT (show s1.heap.IsTuple a as.toArray from pa) (show s1.heap.IsTuple b bs.toArray from pb) fun h' hz hTI hTO h1 h2 hk => ?_
  refine wpAny_pyIter_zip hz ?_
  refine ⟨_, [_, _, _, _, _], _, _, H1, rfl, I1.kept (t' := s1.toks) hk, turn_zipT (zipApart_new la lb), ⟨hz, hTI, ⟨_, _, hTO⟩, h1, h2⟩, fun c hc => ?_, q⟩
  have fr : ∀ c, s1.heap.objs.size ≤ c → FpOk X pins H1 c := fun c z => I1.fpOk z (I1.hok.fresh z)
  simp only [List.mem_cons, List.not_mem_nil, or_false] at hc
  rcases hc with rfl | rfl | rfl | rfl | rfl <;> exact fr _ (by omega)
end
/-- over two tuples of one length -/
theorem for_zipT {K : PySem.W.Frag} {a b : Addr} {xs ys : List V} {g : TG} {tb : TS} {D : Ends} {σ : St} {H : Hp} (hn : xs.length = ys.length) (Pv : Nat → St → Hp → Prop) (h0 : Pv 0 σ H) (hl : ∀ i σ H, i ≤ xs.length → Pv i σ H → SqT K H a xs ∧ SqT K H b ys)
    (hs : ∀ i x y σ H p, xs[i]? = some x → ys[i]? = some y → Pv i σ H → H p = none → g (.ref p) σ (upd H p (.tup [x, y])) fun σ2 H2 => tb { D with nx := Pv (i + 1), ct := Pv (i + 1), bk := D.nx } σ2 H2) (hd : ∀ σ H, Pv xs.length σ H → D.nx σ H) :
    ∃ W : Nat → Nat → St → Hp → Prop, (∃ m, W 0 m σ H) ∧ ∀ i m σ H, W i m σ H →
      ((ItzT K a b).stop i H ∧ D.nx σ H) ∨ ((ItzT K a b).go i H ∧ ∃ N : St → Hp → Prop, (∀ σ' H', N σ' H' → ∃ m', m' < m ∧ W (i + 1) m' σ' H') ∧ ∀ x H', (ItzT K a b).yld i H x H' → g x σ H' fun σ2 H2 => tb { D with nx := N, ct := N, bk := D.nx } σ2 H2) := by
  refine ⟨fun i m σ H => m = xs.length - i ∧ i ≤ xs.length ∧ Pv i σ H, ⟨xs.length, by simp, Nat.zero_le _, h0⟩, ?_⟩
  rintro i m σ H ⟨rfl, hi, p⟩
  obtain ⟨qa, qb⟩ := hl i σ H hi p
  by_cases hlt : i < xs.length
  · have ly : i < ys.length := by omega
    refine .inr ⟨⟨xs, xs[i], ys, ys[i], qa, qb, by simp [hlt], by simp [ly]⟩, Pv (i + 1), fun σ' H' p' => ⟨xs.length - (i + 1), by omega, rfl, hlt, p'⟩, fun v H' z => ?_⟩
    obtain ⟨x, y, pp, e1, e2, e3, e4, e5⟩ := z
    subst e3 e5
    exact hs i x y σ H pp (e1 xs qa) (e2 ys qb) p e4
  · obtain rfl : i = xs.length := by omega
    exact .inl ⟨⟨xs, qa, Nat.le_refl _⟩, hd σ H p⟩
/-- not xs, of a list -/
def tNotL (K : PySem.W.Frag) (ta : TE) : TE := fun σ H Q => ta σ H fun x H1 => ∃ p xs, x = .ref p ∧ SqL K H1 p xs ∧ Q (.bl xs.isEmpty) H1
theorem pe_notL {X : Cx} {a : Expr} {ta : TE} {pos : Pos} (ha : PE X a ta) : PE X (.UnaryOp .Not a pos) (tNotL X.K ta) := by
  intro pins s σ H Q I h
  refine UnaryOp_ (thn (ha pins s σ H _ I h) fun v s1 ⟨x, H1, I1, r1, q1⟩ => ?_)
  obtain ⟨p, xs, rfl, hx, q⟩ := q1
  cases r1
  obtain ⟨its, r, pl, hz⟩ := I1.list hx
  have hlen := r.length
  have hn := line63
  exact not_of (wpAny_truthy_list pl.isList (by simp only [List.size_toArray]; omega) ⟨.bl xs.isEmpty, H1, I1.tok _, by rw [isEmpty_of r, Bool.not_not]; rfl, q⟩)
end L2
namespace Mine
open PySem L2 PyProof.Rows
def top (i : Nat) : Stmt := PySem.Challenge.pw_floorcurves_k45_one_step_of_the_sums.main.body.getD i (.Pass ⟨0, 0, 0, 0⟩)
abbrev s_is_whole : Stmt := top 6
theorem sc_is_whole : FnScope ["thing"] ["thing"] (defScope s_is_whole) := ⟨rfl, rfl, rfl, by decide +kernel, rfl, by decide +kernel, by decide +kernel⟩
abbrev s_need_between : Stmt := top 7
theorem sc_need_between : FnScope ["thing", "least", "greatest"] ["thing", "least", "greatest"] (defScope s_need_between) := ⟨rfl, rfl, rfl, by decide +kernel, rfl, by decide +kernel, by decide +kernel⟩
abbrev s_need_wide : Stmt := top 8
theorem sc_need_wide : FnScope ["d", "k"] ["d", "k"] (defScope s_need_wide) := ⟨rfl, rfl, rfl, by decide +kernel, rfl, by decide +kernel, by decide +kernel⟩
abbrev s_choose : Stmt := top 10
theorem sc_choose : FnScope ["number", "chosen", "found", "place"] ["number", "chosen"] (defScope s_choose) := ⟨rfl, rfl, rfl, by decide +kernel, rfl, by decide +kernel, by decide +kernel⟩
abbrev s_is_row : Stmt := top 12
theorem sc_is_row : FnScope ["thing", "number"] ["thing"] (defScope s_is_row) := ⟨rfl, rfl, rfl, by decide +kernel, rfl, by decide +kernel, by decide +kernel⟩
abbrev s_row_weight : Stmt := top 13
theorem sc_row_weight : FnScope ["row"] ["row"] (defScope s_row_weight) := ⟨rfl, rfl, rfl, by decide +kernel, rfl, by decide +kernel, by decide +kernel⟩
abbrev s_need_rows : Stmt := top 14
theorem sc_need_rows : FnScope ["d", "held", "free"] ["d", "held", "free"] (defScope s_need_rows) := ⟨rfl, rfl, rfl, by decide +kernel, rfl, by decide +kernel, by decide +kernel⟩
abbrev s_with_more : Stmt := top 16
theorem sc_with_more : FnScope ["numbers", "place", "more"] ["numbers", "place", "more"] (defScope s_with_more) := ⟨rfl, rfl, rfl, by decide +kernel, rfl, by decide +kernel, by decide +kernel⟩
abbrev s_product_of : Stmt := top 17
theorem sc_product_of : FnScope ["numbers", "product", "number"] ["numbers"] (defScope s_product_of) := ⟨rfl, rfl, rfl, by decide +kernel, rfl, by decide +kernel, by decide +kernel⟩
abbrev s_filled_up : Stmt := top 19
theorem sc_filled_up : FnScope ["row", "length"] ["row", "length"] (defScope s_filled_up) := ⟨rfl, rfl, rfl, by decide +kernel, rfl, by decide +kernel, by decide +kernel⟩
abbrev s_rows_within : Stmt := top 20
theorem sc_rows_within : FnScope ["row", "found", "number", "longer", "begun"] ["row"] (defScope s_rows_within) := ⟨rfl, rfl, rfl, by decide +kernel, rfl, by decide +kernel, by decide +kernel⟩
abbrev s_rows_beyond : Stmt := top 21
theorem sc_rows_beyond : FnScope ["row", "weight", "first", "missing", "found", "place"] ["row", "weight", "first"] (defScope s_rows_beyond) := ⟨rfl, rfl, rfl, by decide +kernel, rfl, by decide +kernel, by decide +kernel⟩
abbrev s_choices : Stmt := top 22
theorem sc_choices : FnScope ["row", "chosen", "product", "number", "part"] ["row", "chosen"] (defScope s_choices) := ⟨rfl, rfl, rfl, by decide +kernel, rfl, by decide +kernel, by decide +kernel⟩
abbrev s_weights_gained : Stmt := top 23
theorem sc_weights_gained : FnScope ["row", "fuller", "found", "place", "number"] ["row", "fuller"] (defScope s_weights_gained) := ⟨rfl, rfl, rfl, by decide +kernel, rfl, by decide +kernel, by decide +kernel⟩
abbrev s_with_one_held : Stmt := top 24
theorem sc_with_one_held : FnScope ["d", "k", "held", "free", "found", "place", "number", "lesser"] ["d", "k", "held", "free"] (defScope s_with_one_held) := ⟨rfl, rfl, rfl, by decide +kernel, rfl, by decide +kernel, by decide +kernel⟩
abbrev s_with_one_degree_fewer : Stmt := top 25
theorem sc_with_one_degree_fewer : FnScope ["d", "k", "held", "free", "found", "kept", "freed", "lesser"] ["d", "k", "held", "free"] (defScope s_with_one_degree_fewer) := ⟨rfl, rfl, rfl, by decide +kernel, rfl, by decide +kernel, by decide +kernel⟩
abbrev s_summands : Stmt := top 26
theorem sc_summands : FnScope ["asked", "d", "k", "held", "free"] ["asked"] (defScope s_summands) := ⟨rfl, rfl, rfl, by decide +kernel, rfl, by decide +kernel, by decide +kernel⟩
abbrev s_counted : Stmt := top 27
theorem sc_counted : FnScope ["asked", "known", "total", "number", "weights", "lesser"] ["asked", "known"] (defScope s_counted) := ⟨rfl, rfl, rfl, by decide +kernel, rfl, by decide +kernel, by decide +kernel⟩
abbrev s_asked_of : Stmt := top 28
theorem sc_asked_of : FnScope ["d", "k", "held", "free"] ["d", "k", "held", "free"] (defScope s_asked_of) := ⟨rfl, rfl, rfl, by decide +kernel, rfl, by decide +kernel, by decide +kernel⟩
abbrev s_by_ends : Stmt := top 29
theorem sc_by_ends : FnScope ["d", "k", "held", "free"] ["d", "k", "held", "free"] (defScope s_by_ends) := ⟨rfl, rfl, rfl, by decide +kernel, rfl, by decide +kernel, by decide +kernel⟩
abbrev s__law_cell_at : Stmt := top 31
theorem sc__law_cell_at : FnScope ["_law_script", "_law_k"] ["_law_script", "_law_k"] (defScope s__law_cell_at) := ⟨rfl, rfl, rfl, by decide +kernel, rfl, by decide +kernel, by decide +kernel⟩
abbrev s__law_great : Stmt := top 32
theorem sc__law_great : FnScope ["_law_cell", "_law_x", "_law_found", "_law_k"] ["_law_cell"] (defScope s__law_great) := ⟨rfl, rfl, rfl, by decide +kernel, rfl, by decide +kernel, by decide +kernel⟩
abbrev s__law_digit : Stmt := top 33
theorem sc__law_digit : FnScope ["_law_rest", "_law_m", "_law_digit_here"] ["_law_rest", "_law_m"] (defScope s__law_digit) := ⟨rfl, rfl, rfl, by decide +kernel, rfl, by decide +kernel, by decide +kernel⟩
abbrev s__law_rows : Stmt := top 34
theorem sc__law_rows : FnScope ["_law_rest", "_law_d", "_law_held", "_law_free", "_law_left", "_law_w"] ["_law_rest", "_law_d"] (defScope s__law_rows) := ⟨rfl, rfl, rfl, by decide +kernel, rfl, by decide +kernel, by decide +kernel⟩
abbrev s__law_trimmed : Stmt := top 35
theorem sc__law_trimmed : FnScope ["_law_row"] ["_law_row"] (defScope s__law_trimmed) := ⟨rfl, rfl, rfl, by decide +kernel, rfl, by decide +kernel, by decide +kernel⟩
abbrev s__law_choose : Stmt := top 36
theorem sc__law_choose : FnScope ["_law_many", "_law_few", "_law_found", "_law_k"] ["_law_many", "_law_few"] (defScope s__law_choose) := ⟨rfl, rfl, rfl, by decide +kernel, rfl, by decide +kernel, by decide +kernel⟩
abbrev s__law_within : Stmt := top 37
theorem sc__law_within : FnScope ["_law_row", "_law_found", "_law_many", "_law_longer", "_law_one_here", "_law_few"] ["_law_row"] (defScope s__law_within) := ⟨rfl, rfl, rfl, by decide +kernel, rfl, by decide +kernel, by decide +kernel⟩
abbrev s__law_weight : Stmt := top 38
theorem sc__law_weight : FnScope ["_law_row"] ["_law_row"] (defScope s__law_weight) := ⟨rfl, rfl, rfl, by decide +kernel, rfl, by decide +kernel, by decide +kernel⟩
abbrev s__law_above : Stmt := top 39
theorem sc__law_above : FnScope ["_law_row", "_law_spare", "_law_found", "_law_at", "_law_longer", "_law_one_here", "_law_more"] ["_law_row", "_law_spare"] (defScope s__law_above) := ⟨rfl, rfl, rfl, by decide +kernel, rfl, by decide +kernel, by decide +kernel⟩
abbrev s__law_by_held : Stmt := top 40
theorem sc__law_by_held : FnScope ["_law_d", "_law_k", "_law_held", "_law_free", "_law_total", "_law_at", "_law_more", "_law_less"] ["_law_d", "_law_k", "_law_held", "_law_free"] (defScope s__law_by_held) := ⟨rfl, rfl, rfl, by decide +kernel, rfl, by decide +kernel, by decide +kernel⟩
abbrev s__law_ways : Stmt := top 41
theorem sc__law_ways : FnScope ["_law_kept", "_law_held", "_law_free", "_law_freed", "_law_total", "_law_at", "_law_turn"] ["_law_kept", "_law_held", "_law_free", "_law_freed"] (defScope s__law_ways) := ⟨rfl, rfl, rfl, by decide +kernel, rfl, by decide +kernel, by decide +kernel⟩
abbrev s__law_by_floor : Stmt := top 42
theorem sc__law_by_floor : FnScope ["_law_d", "_law_k", "_law_held", "_law_free", "_law_total", "_law_kept", "_law_spare", "_law_freed", "_law_less", "_law_one_here"] ["_law_d", "_law_k", "_law_held", "_law_free"] (defScope s__law_by_floor) := ⟨rfl, rfl, rfl, by decide +kernel, rfl, by decide +kernel, by decide +kernel⟩
abbrev s__law_one : Stmt := top 43
theorem sc__law_one : FnScope ["_law_cell", "_law_most", "_law_rest", "_law_d", "_law_k", "_law_held", "_law_free", "_law_handed", "_law_found"] ["_law_cell", "_law_most"] (defScope s__law_one) := ⟨rfl, rfl, rfl, by decide +kernel, rfl, by decide +kernel, by decide +kernel⟩
abbrev s_law : Stmt := top 44
theorem sc_law : FnScope ["_law_script", "_law_k"] ["_law_script"] (defScope s_law) := ⟨rfl, rfl, rfl, by decide +kernel, rfl, by decide +kernel, by decide +kernel⟩
set_option genInjectivity false
set_option genSizeOfSpec false
structure Fns (K : PySem.W.Frag) (mg : Str → Option Value) where
  f_is_whole : Addr
  d_is_whole : FuncData
  f_need_between : Addr
  d_need_between : FuncData
  f_need_wide : Addr
  d_need_wide : FuncData
  f_choose : Addr
  d_choose : FuncData
  f_is_row : Addr
  d_is_row : FuncData
  f_row_weight : Addr
  d_row_weight : FuncData
  f_need_rows : Addr
  d_need_rows : FuncData
  f_with_more : Addr
  d_with_more : FuncData
  f_product_of : Addr
  d_product_of : FuncData
  f_filled_up : Addr
  d_filled_up : FuncData
  f_rows_within : Addr
  d_rows_within : FuncData
  f_rows_beyond : Addr
  d_rows_beyond : FuncData
  f_choices : Addr
  d_choices : FuncData
  f_weights_gained : Addr
  d_weights_gained : FuncData
  f_with_one_held : Addr
  d_with_one_held : FuncData
  f_with_one_degree_fewer : Addr
  d_with_one_degree_fewer : FuncData
  f_summands : Addr
  d_summands : FuncData
  f_counted : Addr
  d_counted : FuncData
  f_asked_of : Addr
  d_asked_of : FuncData
  f_by_ends : Addr
  d_by_ends : FuncData
  f__law_cell_at : Addr
  d__law_cell_at : FuncData
  f__law_great : Addr
  d__law_great : FuncData
  f__law_digit : Addr
  d__law_digit : FuncData
  f__law_rows : Addr
  d__law_rows : FuncData
  f__law_trimmed : Addr
  d__law_trimmed : FuncData
  f__law_choose : Addr
  d__law_choose : FuncData
  f__law_within : Addr
  d__law_within : FuncData
  f__law_weight : Addr
  d__law_weight : FuncData
  f__law_above : Addr
  d__law_above : FuncData
  f__law_by_held : Addr
  d__law_by_held : FuncData
  f__law_ways : Addr
  d__law_ways : FuncData
  f__law_by_floor : Addr
  d__law_by_floor : FuncData
  f__law_one : Addr
  d__law_one : FuncData
  f_law : Addr
  d_law : FuncData
  F_is_whole : Fun K "is_whole" "is_whole" s_is_whole f_is_whole d_is_whole
  B_is_whole : Binds K d_is_whole ["thing"] []
  m_is_whole : mg "is_whole" = some (.ref f_is_whole)
  F_need_between : Fun K "need_between" "need_between" s_need_between f_need_between d_need_between
  B_need_between : Binds K d_need_between ["thing", "least", "greatest"] []
  m_need_between : mg "need_between" = some (.ref f_need_between)
  F_need_wide : Fun K "need_wide" "need_wide" s_need_wide f_need_wide d_need_wide
  B_need_wide : Binds K d_need_wide ["d", "k"] []
  m_need_wide : mg "need_wide" = some (.ref f_need_wide)
  F_choose : Fun K "choose" "choose" s_choose f_choose d_choose
  B_choose : Binds K d_choose ["number", "chosen"] []
  m_choose : mg "choose" = some (.ref f_choose)
  F_is_row : Fun K "is_row" "is_row" s_is_row f_is_row d_is_row
  B_is_row : Binds K d_is_row ["thing"] []
  m_is_row : mg "is_row" = some (.ref f_is_row)
  F_row_weight : Fun K "row_weight" "row_weight" s_row_weight f_row_weight d_row_weight
  B_row_weight : Binds K d_row_weight ["row"] []
  m_row_weight : mg "row_weight" = some (.ref f_row_weight)
  F_need_rows : Fun K "need_rows" "need_rows" s_need_rows f_need_rows d_need_rows
  B_need_rows : Binds K d_need_rows ["d", "held", "free"] []
  m_need_rows : mg "need_rows" = some (.ref f_need_rows)
  F_with_more : Fun K "with_more" "with_more" s_with_more f_with_more d_with_more
  B_with_more : Binds K d_with_more ["numbers", "place", "more"] []
  m_with_more : mg "with_more" = some (.ref f_with_more)
  F_product_of : Fun K "product_of" "product_of" s_product_of f_product_of d_product_of
  B_product_of : Binds K d_product_of ["numbers"] []
  m_product_of : mg "product_of" = some (.ref f_product_of)
  F_filled_up : Fun K "filled_up" "filled_up" s_filled_up f_filled_up d_filled_up
  B_filled_up : Binds K d_filled_up ["row", "length"] []
  m_filled_up : mg "filled_up" = some (.ref f_filled_up)
  F_rows_within : Fun K "rows_within" "rows_within" s_rows_within f_rows_within d_rows_within
  B_rows_within : Binds K d_rows_within ["row"] []
  m_rows_within : mg "rows_within" = some (.ref f_rows_within)
  F_rows_beyond : Fun K "rows_beyond" "rows_beyond" s_rows_beyond f_rows_beyond d_rows_beyond
  B_rows_beyond : Binds K d_rows_beyond ["row", "weight", "first"] []
  m_rows_beyond : mg "rows_beyond" = some (.ref f_rows_beyond)
  F_choices : Fun K "choices" "choices" s_choices f_choices d_choices
  B_choices : Binds K d_choices ["row", "chosen"] []
  m_choices : mg "choices" = some (.ref f_choices)
  F_weights_gained : Fun K "weights_gained" "weights_gained" s_weights_gained f_weights_gained d_weights_gained
  B_weights_gained : Binds K d_weights_gained ["row", "fuller"] []
  m_weights_gained : mg "weights_gained" = some (.ref f_weights_gained)
  F_with_one_held : Fun K "with_one_held" "with_one_held" s_with_one_held f_with_one_held d_with_one_held
  B_with_one_held : Binds K d_with_one_held ["d", "k", "held", "free"] []
  m_with_one_held : mg "with_one_held" = some (.ref f_with_one_held)
  F_with_one_degree_fewer : Fun K "with_one_degree_fewer" "with_one_degree_fewer" s_with_one_degree_fewer f_with_one_degree_fewer d_with_one_degree_fewer
  B_with_one_degree_fewer : Binds K d_with_one_degree_fewer ["d", "k", "held", "free"] []
  m_with_one_degree_fewer : mg "with_one_degree_fewer" = some (.ref f_with_one_degree_fewer)
  F_summands : Fun K "summands" "summands" s_summands f_summands d_summands
  B_summands : Binds K d_summands ["asked"] []
  m_summands : mg "summands" = some (.ref f_summands)
  F_counted : Fun K "counted" "counted" s_counted f_counted d_counted
  B_counted : Binds K d_counted ["asked", "known"] []
  m_counted : mg "counted" = some (.ref f_counted)
  F_asked_of : Fun K "asked_of" "asked_of" s_asked_of f_asked_of d_asked_of
  B_asked_of : Binds K d_asked_of ["d", "k", "held", "free"] []
  m_asked_of : mg "asked_of" = some (.ref f_asked_of)
  F_by_ends : Fun K "by_ends" "by_ends" s_by_ends f_by_ends d_by_ends
  B_by_ends : Binds K d_by_ends ["d", "k", "held", "free"] []
  m_by_ends : mg "by_ends" = some (.ref f_by_ends)
  F__law_cell_at : Fun K "_law_cell_at" "_law_cell_at" s__law_cell_at f__law_cell_at d__law_cell_at
  B__law_cell_at : Binds K d__law_cell_at ["_law_script", "_law_k"] []
  m__law_cell_at : mg "_law_cell_at" = some (.ref f__law_cell_at)
  F__law_great : Fun K "_law_great" "_law_great" s__law_great f__law_great d__law_great
  B__law_great : Binds K d__law_great ["_law_cell"] []
  m__law_great : mg "_law_great" = some (.ref f__law_great)
  F__law_digit : Fun K "_law_digit" "_law_digit" s__law_digit f__law_digit d__law_digit
  B__law_digit : Binds K d__law_digit ["_law_rest", "_law_m"] []
  m__law_digit : mg "_law_digit" = some (.ref f__law_digit)
  F__law_rows : Fun K "_law_rows" "_law_rows" s__law_rows f__law_rows d__law_rows
  B__law_rows : Binds K d__law_rows ["_law_rest", "_law_d"] []
  m__law_rows : mg "_law_rows" = some (.ref f__law_rows)
  F__law_trimmed : Fun K "_law_trimmed" "_law_trimmed" s__law_trimmed f__law_trimmed d__law_trimmed
  B__law_trimmed : Binds K d__law_trimmed ["_law_row"] []
  m__law_trimmed : mg "_law_trimmed" = some (.ref f__law_trimmed)
  F__law_choose : Fun K "_law_choose" "_law_choose" s__law_choose f__law_choose d__law_choose
  B__law_choose : Binds K d__law_choose ["_law_many", "_law_few"] []
  m__law_choose : mg "_law_choose" = some (.ref f__law_choose)
  F__law_within : Fun K "_law_within" "_law_within" s__law_within f__law_within d__law_within
  B__law_within : Binds K d__law_within ["_law_row"] []
  m__law_within : mg "_law_within" = some (.ref f__law_within)
  F__law_weight : Fun K "_law_weight" "_law_weight" s__law_weight f__law_weight d__law_weight
  B__law_weight : Binds K d__law_weight ["_law_row"] []
  m__law_weight : mg "_law_weight" = some (.ref f__law_weight)
  F__law_above : Fun K "_law_above" "_law_above" s__law_above f__law_above d__law_above
  B__law_above : Binds K d__law_above ["_law_row", "_law_spare"] []
  m__law_above : mg "_law_above" = some (.ref f__law_above)
  F__law_by_held : Fun K "_law_by_held" "_law_by_held" s__law_by_held f__law_by_held d__law_by_held
  B__law_by_held : Binds K d__law_by_held ["_law_d", "_law_k", "_law_held", "_law_free"] []
  m__law_by_held : mg "_law_by_held" = some (.ref f__law_by_held)
  F__law_ways : Fun K "_law_ways" "_law_ways" s__law_ways f__law_ways d__law_ways
  B__law_ways : Binds K d__law_ways ["_law_kept", "_law_held", "_law_free", "_law_freed"] []
  m__law_ways : mg "_law_ways" = some (.ref f__law_ways)
  F__law_by_floor : Fun K "_law_by_floor" "_law_by_floor" s__law_by_floor f__law_by_floor d__law_by_floor
  B__law_by_floor : Binds K d__law_by_floor ["_law_d", "_law_k", "_law_held", "_law_free"] []
  m__law_by_floor : mg "_law_by_floor" = some (.ref f__law_by_floor)
  F__law_one : Fun K "_law_one" "_law_one" s__law_one f__law_one d__law_one
  B__law_one : Binds K d__law_one ["_law_cell", "_law_most"] []
  m__law_one : mg "_law_one" = some (.ref f__law_one)
  F_law : Fun K "law" "law" s_law f_law d_law
  B_law : Binds K d_law ["_law_script"] []
  m_law : mg "law" = some (.ref f_law)
  n_isinstance : mg "isinstance" = none
  n_int : mg "int" = none
  n_bool : mg "bool" = none
  n_range : mg "range" = none
  n_list : mg "list" = none
  n_sum : mg "sum" = none
  n_enumerate : mg "enumerate" = none
  n_tuple : mg "tuple" = none
  n_len : mg "len" = none
  n_min : mg "min" = none
  n_zip : mg "zip" = none
  n_max : mg "max" = none
  a_WIDE : Addr
  m_WIDE : mg "WIDE" = some (.ref a_WIDE)
  D_WIDE : dtabIn K a_WIDE [(1, 6), (2, 6), (3, 6), (4, 6), (5, 3)] = true
  c_NoBound : Addr
  m_NoBound : mg "NoBound" = some (.ref c_NoBound)
  c_NoEnds : Addr
  m_NoEnds : mg "NoEnds" = some (.ref c_NoEnds)
  x_NoBound : PySem.W.excIn K c_NoBound bmV "ValueError.__new__" = true
  X_NoBound : XC K c_NoBound
  x_NoEnds : PySem.W.excIn K c_NoEnds bmV "ValueError.__new__" = true
  X_NoEnds : XC K c_NoEnds
/-! lifts and what they leave at the floors -/
abbrev Lf := Int × Int × Int
def comes (ps : List Lf) (f : Int) : Int := ((ps.filter fun p => decide (p.2.1 = f)).map (·.2.2)).sum
def leaves (ps : List Lf) (f : Int) : Int := ((ps.filter fun p => decide (p.1 = f)).map (·.2.2)).sum
theorem map_set {l : List Int} {i : Nat} {v : Int} : (l.set i v).map V.int = (l.map V.int).set i (.int v) := by rw [List.map_set]
def TupS (H H' : Hp) : Prop := ∀ a xs, H a = some (.tup xs) → H' a = some (.tup xs)
theorem TupS.of_same {H H' : Hp} (s : Same H H') : TupS H H' := fun a xs e => s _ _ e
theorem TupS.trans {H H' H'' : Hp} (s : TupS H H') (t : TupS H' H'') : TupS H H'' := fun a xs e => t _ _ (s _ _ e)
theorem TupS.upd {H : Hp} {b : Addr} {zs ys : List V} (hb : H b = some (.lst zs)) : TupS H (L2.upd H b (.lst ys)) := fun a xs e => by
  rw [upd_ne (by rintro rfl; rw [hb] at e; cases e)]; exact e
/-! lists of lifts by < -/
/-! without the lists of an earlier heap -/
def nw (H0 H : Hp) : Hp := fun b => match H0 b with | some (.lst _) => none | _ => H b
theorem nw_same {H0 H : Hp} : Same (nw H0 H) H := fun b o e => by
  unfold nw at e
  split at e
  · cases e
  · exact e
theorem nw_mono {H0 H H' : Hp} (s : Same H H') : Same (nw H0 H) (nw H0 H') := fun b o e => by
  unfold nw at e ⊢
  split at e
  · cases e
  · exact s _ _ e
/-- of a later heap less is left -/
theorem nw_later {H0 H1 H : Hp} (s : Same H0 H1) : Same (nw H1 H) (nw H0 H) := fun b o e => by
  unfold nw at e ⊢
  split at e
  · cases e
  · rename_i h
    split
    · rename_i xs h0
      exact absurd (s _ _ h0) (h xs)
    · exact e
theorem nw_hid {H0 H1 H : Hp} {a : Addr} {xs : List V} (s : Same H0 H1) (ha : H1 a = some (.lst xs)) : Same (nw H1 H) (hid (nw H0 H) a) := fun b o e => by
  have hb : b ≠ a := by
    rintro rfl
    unfold nw at e
    rw [ha] at e
    cases e
  rw [hid_at hb]
  exact nw_later s b o e
theorem nw_new {H0 H : Hp} {a : Addr} (h : H0 a = none) : nw H0 H a = H a := by unfold nw; rw [h]
theorem nw_tup {H0 H : Hp} {a : Addr} {xs : List V} (s : Same H0 H) (h : H a = some (.tup xs)) : nw H0 H a = some (.tup xs) := by
  unfold nw
  split
  · rename_i ys e
    rw [s _ _ e] at h
    cases h
  · exact h
/-- a list that grows, since H0, of things made since H0 -/
def Acc (H0 H : Hp) (a : Addr) (xs : List D) : Prop := ∃ vs, H a = some (.lst vs) ∧ Iss (hid (nw H0 H) a) xs vs
theorem Acc.start {H0 H : Hp} {a : Addr} (h : H a = some (.lst [])) : Acc H0 H a [] := ⟨[], h, iss_nil⟩
theorem Acc.mono {H0 H H' : Hp} {a : Addr} {xs : List D} (s : Same H H') (g : Acc H0 H a xs) : Acc H0 H' a xs := let ⟨vs, e, h⟩ := g; ⟨vs, s _ _ e, h.mono (hid_mono (nw_mono s))⟩
theorem hid_nw_upd {H0 H : Hp} {a : Addr} {o : HO} : hid (nw H0 (upd H a o)) a = hid (nw H0 H) a := by
  funext b
  unfold hid
  split
  · rfl
  · rename_i h
    unfold nw
    rw [upd_ne h]
theorem Acc.add {H0 H1 H2 : Hp} {a : Addr} {xs : List D} {x : D} {vs : List V} {v : V} (s01 : Same H0 H1) (s12 : Same H1 H2) (ha : H1 a = some (.lst vs)) (h : Iss (hid (nw H0 H1) a) xs vs) (k : Is (nw H1 H2) x v) : Acc H0 (upd H2 a (.lst (vs ++ [v]))) a (xs ++ [x]) :=
  ⟨vs ++ [v], upd_same, by rw [hid_nw_upd]; exact (h.mono (hid_mono (nw_mono s12))).append (iss_cons (k.mono (nw_hid s01 ha)) iss_nil)⟩
theorem Acc.is {H0 H : Hp} {a : Addr} {xs : List D} (n : H0 a = none) (g : Acc H0 H a xs) : Is (nw H0 H) (.l xs) (.ref a) := let ⟨_, e, h⟩ := g; is_l (by rw [nw_new n]; exact e) (h.mono hid_same)

def chF (n : Int) : Nat → Int
  | 0 => 1
  | k + 1 => chF n k * (n - (k : Int)) / ((k : Int) + 1)
def wmF (t : List Int) (p : Nat) (m : Int) : List Int := t.set p (t.getD p 0 + m)
theorem wm_len (t : List Int) (p : Nat) (m : Int) : (wmF t p m).length = t.length := by unfold wmF; rw [List.length_set]
theorem wm_at {t : List Int} {p i : Nat} {m : Int} (h : p < t.length) : (wmF t p m).getD i 0 = t.getD i 0 + if p = i then m else 0 := by
  unfold wmF
  rw [List.getD_eq_getElem?_getD, List.getElem?_set]
  by_cases e : p = i
  · subst e; simp [h]
  · simp [e]
theorem set_cut {t : List Int} {p : Nat} {x : Int} (h : p < t.length) : t.take p ++ [x] ++ t.drop (p + 1) = t.set p x := by
  rw [List.set_eq_take_append_cons_drop, if_pos h]
  simp
theorem flatMap_eq {α β : Type} {f g : α → List β} : ∀ {xs : List α}, (∀ x ∈ xs, f x = g x) → xs.flatMap f = xs.flatMap g
  | [], _ => rfl
  | x :: xs, h => by rw [List.flatMap_cons, List.flatMap_cons, h x (by simp), flatMap_eq fun y hy => h y (by simp [hy])]
theorem sum_set : ∀ {t : List Int} {p : Nat} {m : Int}, p < t.length → (wmF t p m).sum = t.sum + m
  | [], p, m, h => absurd h (by simp)
  | x :: t, 0, m, _ => by simp [wmF]; omega
  | x :: t, p + 1, m, h => by
    have := sum_set (t := t) (p := p) (m := m) (by simpa using h)
    unfold wmF at this ⊢
    simp only [List.set_cons_succ, List.sum_cons, List.getD_cons_succ] at this ⊢
    omega
/-! the count by ends -/
def wtG : Int → List Int → Int
  | _, [] => 0
  | i, x :: r => i * x + wtG (i + 1) r
def wtF (r : List Int) : Int := wtG 1 r
def rwS (found : List (List Int)) (n : Int) : List (List Int) := found.flatMap fun b => (List.range (n + 1).toNat).map fun h : Nat => b ++ [(h : Int)]
def rwF (row : List Int) : List (List Int) := row.foldl rwS [[]]
def rbF : Nat → List Int → Int → Nat → List (List Int)
  | 0, _, _, _ => []
  | n + 1, row, wt, first => if wt - wtF row = 0 then [row] else (List.range (min row.length (wt - wtF row).toNat - first)).flatMap fun j => rbF n (wmF row (first + j) 1) wt (first + j)
def chsF : List Int → List Int → Int
  | x :: a, y :: b => chF x y.toNat * chsF a b
  | _, _ => 1
def wgG : Int → List Int → List Int → List Int
  | i, x :: a, y :: b => List.replicate (y - x).toNat i ++ wgG (i + 1) a b
  | _, _, _ => []
def wgF (r f : List Int) : List Int := wgG 1 r f
structure Ask4 where
  d : Int
  k : Int
  h : List Int
  f : List Int
abbrev Sm4 := Int × List Int × Ask4
def hel1 (q : Ask4) (p : Nat) : List Sm4 := if q.f.getD p 0 > 0 then [(1, [(p : Int) + 1], ⟨q.d, q.k, wmF q.h p 1, wmF q.f p (-1)⟩)] else []
def heldF (q : Ask4) : List Sm4 := (List.range q.f.length).flatMap (hel1 q)
def few2 (q : Ask4) (kp fr : List Int) : Sm4 := (chsF q.h kp * chsF fr q.f, wgF q.f fr, ⟨q.d - 1, q.k + fr.sum - q.f.sum - q.d + 1, kp, fr⟩)
def few1 (q : Ask4) (kp : List Int) : List Sm4 := (rbF 8 q.f (q.d - 1 - wtF kp) 0).map (few2 q kp)
def fewF (q : Ask4) : List Sm4 := (rwF q.h).flatMap (few1 q)
def sumsF (q : Ask4) : List Sm4 := heldF q ++ fewF q
def prdF (ws : List Int) : Int := ws.foldl (· * ·) 1
def cntE : Nat → Ask4 → Int
  | 0, _ => 0
  | n + 1, q => if q.k < 0 then 0 else if q.d = 1 then (if q.k = 0 then 1 else 0) else ((sumsF q).map fun x => x.1 * prdF x.2.1 * cntE n x.2.2).sum
/-! rows -/
def Nn (t : List Int) : Prop := ∀ i : Nat, 0 ≤ t.getD i 0
theorem Nn.cons {x : Int} {t : List Int} : Nn (x :: t) ↔ 0 ≤ x ∧ Nn t := by
  constructor
  · intro h
    exact ⟨h 0, fun i => h (i + 1)⟩
  · rintro ⟨a, b⟩ i
    cases i with
    | zero => exact a
    | succ i => exact b i
theorem wtG_nn : ∀ {t : List Int} {i : Int}, 0 ≤ i → Nn t → 0 ≤ wtG i t
  | [], _, _, _ => Int.le_refl 0
  | x :: t, i, hi, h => by
    obtain ⟨a, b⟩ := Nn.cons.mp h
    have := wtG_nn (i := i + 1) (by omega) b
    have := Int.mul_nonneg hi a
    unfold wtG
    omega
/-- the sum is at most the weight -/
theorem sum_wt : ∀ {t : List Int} {i : Int}, 1 ≤ i → Nn t → 0 ≤ t.sum ∧ t.sum ≤ wtG i t
  | [], _, _, _ => ⟨Int.le_refl 0, Int.le_refl 0⟩
  | x :: t, i, hi, h => by
    obtain ⟨a, b⟩ := Nn.cons.mp h
    obtain ⟨s1, s2⟩ := sum_wt (i := i + 1) (by omega) b
    have : 1 * x ≤ i * x := Int.mul_le_mul_of_nonneg_right hi a
    rw [List.sum_cons]
    unfold wtG
    omega
theorem wtG_wm {m : Int} : ∀ {t : List Int} {p : Nat} {i : Int}, p < t.length → wtG i (wmF t p m) = wtG i t + (i + p) * m
  | [], p, _, h => absurd h (by simp)
  | x :: t, 0, i, _ => by
    show wtG i ((x + m) :: t) = wtG i (x :: t) + _
    unfold wtG
    rw [Int.mul_add]
    simp
    omega
  | x :: t, p + 1, i, h => by
    have ih := wtG_wm (m := m) (t := t) (p := p) (i := i + 1) (by simpa using h)
    show wtG i (x :: wmF t p m) = wtG i (x :: t) + _
    unfold wtG
    rw [ih, show i + 1 + (p : Int) = i + ((p + 1 : Nat) : Int) by omega]
    omega
theorem nn_wm {t : List Int} {p : Nat} {m : Int} (hp : p < t.length) (h : Nn t) (hm : 0 ≤ t.getD p 0 + m) : Nn (wmF t p m) := fun i => by
  rw [wm_at hp]
  split
  · next e => rw [← e]; exact hm
  · have := h i
    omega
theorem nn_snoc {t : List Int} {x : Int} (h : Nn t) (hx : 0 ≤ x) : Nn (t ++ [x]) := by
  induction t with
  | nil => exact Nn.cons.mpr ⟨hx, fun i => by simp⟩
  | cons y t ih =>
    obtain ⟨a, b⟩ := Nn.cons.mp h
    exact Nn.cons.mpr ⟨a, ih b⟩
/-! rows within: kept is at each place at most what is held -/
def Le : List Int → List Int → Prop
  | x :: a, y :: b => 0 ≤ x ∧ x ≤ y ∧ Le a b
  | [], [] => True
  | _, _ => False
theorem Le.len : ∀ {a b : List Int}, Le a b → a.length = b.length
  | [], [], _ => rfl
  | x :: a, y :: b, h => congrArg (· + 1) (Le.len h.2.2)
theorem Le.nn : ∀ {a b : List Int}, Le a b → Nn a ∧ Nn b
  | [], [], _ => ⟨fun i => by simp, fun i => by simp⟩
  | x :: a, y :: b, h => by
    obtain ⟨p, q⟩ := Le.nn h.2.2
    exact ⟨Nn.cons.mpr ⟨h.1, p⟩, Nn.cons.mpr ⟨by have := h.1; have := h.2.1; omega, q⟩⟩
theorem Le.snoc : ∀ {a b : List Int} {x y : Int}, Le a b → 0 ≤ x → x ≤ y → Le (a ++ [x]) (b ++ [y])
  | [], [], _, _, _, h1, h2 => ⟨h1, h2, trivial⟩
  | _ :: a, _ :: b, _, _, h, h1, h2 => ⟨h.1, h.2.1, Le.snoc h.2.2 h1 h2⟩
theorem Le.self : ∀ {a : List Int}, Nn a → Le a a
  | [], _ => trivial
  | x :: a, h => by
    obtain ⟨p, q⟩ := Nn.cons.mp h
    exact ⟨p, Int.le_refl x, Le.self q⟩
theorem Le.wt : ∀ {a b : List Int} {i : Int}, 0 ≤ i → Le a b → wtG i a ≤ wtG i b
  | [], [], _, _, _ => Int.le_refl 0
  | x :: a, y :: b, i, hi, h => by
    have := Le.wt (i := i + 1) (by omega) h.2.2
    have := Int.mul_le_mul_of_nonneg_left h.2.1 hi
    unfold wtG
    omega
/-- what is more: by count at most by weight -/
theorem Le.gain : ∀ {a b : List Int} {i : Int}, 1 ≤ i → Le a b → a.sum ≤ b.sum ∧ b.sum - a.sum ≤ wtG i b - wtG i a
  | [], [], _, _, _ => by simp [wtG]
  | x :: a, y :: b, i, hi, h => by
    obtain ⟨g1, g2⟩ := Le.gain (i := i + 1) (by omega) h.2.2
    have h1 := h.2.1
    have : 1 * (y - x) ≤ i * (y - x) := Int.mul_le_mul_of_nonneg_right hi (by omega)
    have e : i * (y - x) = i * y - i * x := Int.mul_sub i y x
    rw [List.sum_cons, List.sum_cons]
    unfold wtG
    omega
theorem Le.wm {a b : List Int} {p : Nat} (h : Le a b) (hp : p < b.length) : Le a (wmF b p 1) := by
  induction a generalizing b p with
  | nil =>
    cases b with
    | nil => exact trivial
    | cons y b => exact h.elim
  | cons x a ih =>
    cases b with
    | nil => exact h.elim
    | cons y b =>
      cases p with
      | zero => exact ⟨h.1, by show x ≤ y + 1; have := h.2.1; omega, h.2.2⟩
      | succ p => exact ⟨h.1, h.2.1, ih h.2.2 (by simpa using hp)⟩
theorem rw_mem {row t : List Int} (hn : Nn row) (h : t ∈ rwF row) : Le t row := by
  have go : ∀ (r2 r1 : List Int) (F : List (List Int)), (∀ t ∈ F, Le t r1) → Nn r2 → ∀ t ∈ r2.foldl rwS F, Le t (r1 ++ r2) := by
    intro r2
    induction r2 with
    | nil => intro r1 F hF _ t ht; rw [List.append_nil]; exact hF t ht
    | cons n r2 ih =>
      intro r1 F hF hn t ht
      obtain ⟨n0, n2⟩ := Nn.cons.mp hn
      rw [show r1 ++ n :: r2 = (r1 ++ [n]) ++ r2 by simp]
      refine ih (r1 ++ [n]) (rwS F n) (fun u hu => ?_) n2 t ht
      obtain ⟨b, hb, hu⟩ := List.mem_flatMap.mp hu
      obtain ⟨k, hk, rfl⟩ := List.mem_map.mp hu
      have hk := List.mem_range.mp hk
      exact (hF b hb).snoc (by omega) (by omega)
  exact go row [] [[]] (fun t ht => by rw [List.mem_singleton.mp ht]; exact trivial) hn t h
theorem rwS_len {F : List (List Int)} {n : Int} : (rwS F n).length = F.length * (n + 1).toNat := by
  unfold rwS
  induction F with
  | nil => simp
  | cons b F ih =>
    rw [List.flatMap_cons, List.length_append, ih, List.length_map, List.length_range, List.length_cons, Nat.succ_mul, Nat.add_comm]
theorem pow2 (n : Nat) : n + 1 ≤ 2 ^ n := by
  induction n with
  | zero => decide
  | succ n ih => rw [Nat.pow_succ]; omega
theorem rw_len : ∀ (row : List Int) (F : List (List Int)), Nn row → (row.foldl rwS F).length ≤ F.length * 2 ^ row.sum.toNat
  | [], F, _ => by simp
  | n :: row, F, h => by
    obtain ⟨a, b⟩ := Nn.cons.mp h
    have ih := rw_len row (rwS F n) b
    rw [rwS_len] at ih
    have s0 := (sum_wt (i := 1) (by decide) b).1
    rw [List.sum_cons, show (n + row.sum).toNat = n.toNat + row.sum.toNat by omega, Nat.pow_add, ← Nat.mul_assoc]
    refine Nat.le_trans ih (Nat.mul_le_mul_right _ (Nat.mul_le_mul_left _ ?_))
    rw [show (n + 1).toNat = n.toNat + 1 by omega]
    exact pow2 _
theorem nn_take {t : List Int} (h : Nn t) (i : Nat) : Nn (t.take i) := fun j => by
  rw [List.getD_eq_getElem?_getD, List.getElem?_take]
  split
  · have := h j; rwa [List.getD_eq_getElem?_getD] at this
  · simp
theorem rw_few {row : List Int} (hn : Nn row) (hs : row.sum ≤ 5) (i : Nat) : (rwF (row.take i)).length ≤ 32 := by
  have nt : Nn (row.take i) := fun j => by
    rw [List.getD_eq_getElem?_getD, List.getElem?_take]
    split
    · have := hn j; rwa [List.getD_eq_getElem?_getD] at this
    · simp
  have st : (row.take i).sum ≤ 5 := by
    have e : (row.take i).sum + (row.drop i).sum = row.sum := by rw [← List.sum_append, List.take_append_drop]
    have nd : Nn (row.drop i) := fun j => by
      rw [List.getD_eq_getElem?_getD, List.getElem?_drop]
      have := hn (i + j); rwa [List.getD_eq_getElem?_getD] at this
    have := (sum_wt (i := 1) (by decide) nd).1
    omega
  have h := rw_len (row.take i) [[]] nt
  have s0 := (sum_wt (i := 1) (by decide) nt).1
  have : 2 ^ (row.take i).sum.toNat ≤ 2 ^ 5 := Nat.pow_le_pow_right (by decide) (by omega)
  unfold rwF
  simp only [List.length_cons, List.length_nil] at h
  omega
/-! rows beyond -/
theorem rb_mem {wt : Int} : ∀ {n : Nat} {row t : List Int} {first : Nat}, t ∈ rbF n row wt first → Nn row → ∀ {a : List Int}, Le a row → Le a t ∧ wtF t = wt
  | 0, _, _, _, h, _, _, _ => nomatch h
  | n + 1, row, t, first, h, hn, a, ha => by
    unfold rbF at h
    split at h
    · next e => rw [List.mem_singleton.mp h]; exact ⟨ha, by omega⟩
    · obtain ⟨j, hj, h⟩ := List.mem_flatMap.mp h
      have hj := List.mem_range.mp hj
      have hp : first + j < row.length := by omega
      exact rb_mem h (nn_wm hp hn (by have := hn (first + j); omega)) (ha.wm hp)
theorem rb_len {wt : Int} : ∀ {n : Nat} {row : List Int} {first : Nat}, row.length ≤ 5 → (rbF n row wt first).length ≤ 5 ^ n
  | 0, _, _, _ => Nat.zero_le _
  | n + 1, row, first, h => by
    unfold rbF
    split
    · exact Nat.one_le_pow _ _ (by decide)
    · have go : ∀ m, m ≤ 5 → ((List.range m).flatMap fun j => rbF n (wmF row (first + j) 1) wt (first + j)).length ≤ m * 5 ^ n := by
        intro m
        induction m with
        | zero => intro _; exact Nat.zero_le _
        | succ m ih =>
          intro hm
          rw [List.range_succ, List.flatMap_append, List.length_append, Nat.succ_mul, List.flatMap_cons, List.flatMap_nil, List.append_nil]
          have := ih (by omega)
          have := rb_len (n := n) (wt := wt) (row := wmF row (first + m) 1) (first := first + m) (by rw [wm_len]; exact h)
          omega
      have := go (min row.length (wt - wtF row).toNat - first) (by omega)
      have h5 : (min row.length (wt - wtF row).toNat - first) * 5 ^ n ≤ 5 * 5 ^ n := Nat.mul_le_mul_right _ (by omega)
      rw [Nat.pow_succ, Nat.mul_comm]
      omega
/-! choices -/
def ch2 : Bool := (List.range 16).all fun n => (List.range (n + 1)).all fun k => decide (0 ≤ chF (n : Int) k) && decide (chF (n : Int) k ≤ 2 ^ n)
theorem ch2_ok : ch2 = true := by decide +kernel
theorem ch_pow {n k : Int} (h0 : 0 ≤ k) (h1 : k ≤ n) (h2 : n ≤ 15) : 0 ≤ chF n k.toNat ∧ chF n k.toNat ≤ 2 ^ n.toNat := by
  obtain ⟨m, rfl⟩ := Int.eq_ofNat_of_zero_le (show 0 ≤ n by omega)
  have h := ch2_ok
  unfold ch2 at h
  rw [List.all_eq_true] at h
  have h := h m (List.mem_range.mpr (by omega))
  rw [List.all_eq_true] at h
  have h := h k.toNat (List.mem_range.mpr (by omega))
  simpa using h
theorem chs_le : ∀ {a b : List Int}, Le a b → b.sum ≤ 15 → 0 ≤ chsF b a ∧ chsF b a ≤ 2 ^ b.sum.toNat
  | [], [], _, _ => by simp [chsF]
  | x :: a, y :: b, h, hs => by
    obtain ⟨h1, h2, h3⟩ := h
    have s0 := (sum_wt (i := 1) (by decide) (Le.nn h3).2).1
    rw [List.sum_cons] at hs
    obtain ⟨c1, c2⟩ := chs_le h3 (by omega)
    obtain ⟨d1, d2⟩ := ch_pow h1 h2 (by omega)
    rw [List.sum_cons, show (y + b.sum).toNat = y.toNat + b.sum.toNat by omega, Int.pow_add]
    unfold chsF
    exact ⟨Int.mul_nonneg d1 c1, Int.mul_le_mul d2 c2 c1 (Int.pow_nonneg (by decide))⟩
theorem chs_32 {a b : List Int} (h : Le a b) (hs : b.sum ≤ 5) : 0 ≤ chsF b a ∧ chsF b a ≤ 32 := by
  obtain ⟨c1, c2⟩ := chs_le h (by omega)
  have s0 := (sum_wt (i := 1) (by decide) (Le.nn h).2).1
  have : (2 : Int) ^ b.sum.toNat ≤ 2 ^ 5 := by
    have : b.sum.toNat = 0 ∨ b.sum.toNat = 1 ∨ b.sum.toNat = 2 ∨ b.sum.toNat = 3 ∨ b.sum.toNat = 4 ∨ b.sum.toNat = 5 := by omega
    rcases this with e | e | e | e | e | e <;> rw [e] <;> decide
  exact ⟨c1, by omega⟩
/-! what is asked -/
structure AskOk (L : Nat) (q : Ask4) : Prop where
  hl : q.h.length = L
  fl : q.f.length = L
  hn : Nn q.h
  fn : Nn q.f
  wt : wtF q.h + wtF q.f = q.d
  d1 : 1 ≤ q.d
  dL : q.d ≤ L
  L5 : L ≤ 5
  k6 : q.k ≤ 6
def muF (q : Ask4) : Int := 6 * q.d + q.f.sum
section
variable {L : Nat} {q : Ask4}
theorem AskOk.sums (a : AskOk L q) : 0 ≤ q.h.sum ∧ q.h.sum ≤ 5 ∧ 0 ≤ q.f.sum ∧ q.f.sum ≤ 5 := by
  obtain ⟨h1, h2⟩ := sum_wt (i := 1) (by decide) a.hn
  obtain ⟨f1, f2⟩ := sum_wt (i := 1) (by decide) a.fn
  have w1 := wtG_nn (i := 1) (by decide) a.hn
  have w2 := wtG_nn (i := 1) (by decide) a.fn
  have := a.wt
  have := a.dL
  have := a.L5
  unfold wtF at *
  omega
theorem AskOk.held (a : AskOk L q) {x : Sm4} (hx : x ∈ heldF q) : AskOk L x.2.2 ∧ muF x.2.2 + 1 ≤ muF q ∧ x.1 = 1 ∧ ∃ w : Int, x.2.1 = [w] ∧ 1 ≤ w ∧ w ≤ 5 := by
  unfold heldF at hx
  obtain ⟨p, hp, hx⟩ := List.mem_flatMap.mp hx
  have hp := List.mem_range.mp hp
  unfold hel1 at hx
  split at hx
  · next hf =>
    rw [List.mem_singleton.mp hx]
    have hp' : p < q.h.length := by rw [a.hl, ← a.fl]; exact hp
    have h5 := a.L5
    have fl := a.fl
    refine ⟨⟨by rw [wm_len]; exact a.hl, by rw [wm_len]; exact fl, nn_wm hp' a.hn (by have := a.hn p; omega), nn_wm hp a.fn (by omega), ?_, a.d1, a.dL, h5, a.k6⟩, ?_, rfl, _, rfl, by omega, by omega⟩
    · have := a.wt
      show wtF (wmF q.h p 1) + wtF (wmF q.f p (-1)) = q.d
      unfold wtF at *
      rw [wtG_wm hp', wtG_wm hp]
      omega
    · show 6 * q.d + (wmF q.f p (-1)).sum + 1 ≤ 6 * q.d + q.f.sum
      rw [sum_set hp]
      omega
  · cases hx
theorem AskOk.few (a : AskOk L q) (d2 : 2 ≤ q.d) {kp fr : List Int} (hk : kp ∈ rwF q.h) (hf : fr ∈ rbF 8 q.f (q.d - 1 - wtF kp) 0) : AskOk L ⟨q.d - 1, q.k + fr.sum - q.f.sum - q.d + 1, kp, fr⟩ ∧ 6 * (q.d - 1) + fr.sum + 1 ≤ muF q ∧ Le kp q.h ∧ Le q.f fr ∧ fr.sum ≤ 5 := by
  have l1 := rw_mem a.hn hk
  obtain ⟨l2, e⟩ := rb_mem hf a.fn (Le.self a.fn)
  have n1 := (Le.nn l1).1
  have n2 := (Le.nn l2).2
  have w1 := wtG_nn (i := 1) (by decide) n1
  have w2 := wtG_nn (i := 1) (by decide) a.fn
  obtain ⟨g1, g2⟩ := l2.gain (i := 1) (by decide)
  obtain ⟨s1, s2⟩ := sum_wt (i := 1) (by decide) n2
  have h5 := a.L5
  have dL := a.dL
  have k6 := a.k6
  have sf := a.sums
  unfold wtF at e w1 w2
  refine ⟨⟨l1.len.trans a.hl, l2.len.symm.trans a.fl, n1, n2, ?_, ?_, ?_, h5, ?_⟩, ?_, l1, l2, ?_⟩
  · show wtF kp + wtF fr = q.d - 1
    unfold wtF
    omega
  · show 1 ≤ q.d - 1
    omega
  · show q.d - 1 ≤ L
    omega
  · show q.k + fr.sum - q.f.sum - q.d + 1 ≤ 6
    omega
  · unfold muF
    omega
  · omega
theorem few_mem {x : Sm4} (hx : x ∈ fewF q) : ∃ kp ∈ rwF q.h, ∃ fr ∈ rbF 8 q.f (q.d - 1 - wtF kp) 0, x = few2 q kp fr := by
  unfold fewF at hx
  obtain ⟨kp, hk, hx⟩ := List.mem_flatMap.mp hx
  unfold few1 at hx
  obtain ⟨fr, hf, rfl⟩ := List.mem_map.mp hx
  exact ⟨kp, hk, fr, hf, rfl⟩
theorem AskOk.less (a : AskOk L q) (d2 : 2 ≤ q.d) {x : Sm4} (hx : x ∈ sumsF q) : AskOk L x.2.2 ∧ muF x.2.2 + 1 ≤ muF q := by
  unfold sumsF at hx
  rcases List.mem_append.mp hx with hx | hx
  · exact ⟨(a.held hx).1, (a.held hx).2.1⟩
  · obtain ⟨kp, hk, fr, hf, rfl⟩ := few_mem hx
    obtain ⟨h1, h2, _⟩ := a.few d2 hk hf
    exact ⟨h1, h2⟩
end
theorem AskOk.mu {L : Nat} {q : Ask4} (a : AskOk L q) : 6 ≤ muF q ∧ muF q ≤ 35 := by
  have := a.sums
  have := a.d1
  have := a.dL
  have := a.L5
  unfold muF
  omega
theorem cnt_fuel {L : Nat} : ∀ {n m : Nat} {q : Ask4}, AskOk L q → muF q ≤ n → muF q ≤ m → cntE n q = cntE m q
  | 0, _, q, a, h, _ => by have := a.mu; omega
  | _ + 1, 0, q, a, _, h => by have := a.mu; omega
  | n + 1, m + 1, q, a, h1, h2 => by
    unfold cntE
    split
    · rfl
    · split
      · rfl
      · next hd =>
        refine congrArg List.sum (List.map_congr_left fun x hx => ?_)
        obtain ⟨b, c⟩ := a.less (by have := a.d1; omega) hx
        rw [cnt_fuel b (n := n) (m := m) (by omega) (by omega)]
def cF (q : Ask4) : Int := cntE 36 q
theorem cF_neg {q : Ask4} (h : q.k < 0) : cF q = 0 := if_pos h
theorem cF_one {q : Ask4} (h : ¬ q.k < 0) (hd : q.d = 1) : cF q = if q.k = 0 then 1 else 0 := by
  unfold cF cntE
  rw [if_neg h, if_pos hd]
theorem cF_sum {L : Nat} {q : Ask4} (a : AskOk L q) (h : ¬ q.k < 0) (hd : ¬ q.d = 1) : cF q = ((sumsF q).map fun x => x.1 * prdF x.2.1 * cF x.2.2).sum := by
  have e : cF q = cntE 37 q := cnt_fuel a (by have := a.mu; omega) (by have := a.mu; omega)
  rw [e]
  unfold cntE
  rw [if_neg h, if_neg hd]
  rfl
/-! a nought behind changes nothing -/
theorem wtG_pad : ∀ {t : List Int} {i : Int}, wtG i (t ++ [0]) = wtG i t
  | [], i => by simp [wtG]
  | x :: t, i => by
    show i * x + wtG (i + 1) (t ++ [0]) = i * x + wtG (i + 1) t
    rw [wtG_pad]
theorem wm_pad {m : Int} : ∀ {t : List Int} {p : Nat}, p < t.length → wmF (t ++ [0]) p m = wmF t p m ++ [0]
  | [], p, h => absurd h (by simp)
  | x :: t, 0, _ => rfl
  | x :: t, p + 1, h => congrArg (x :: ·) (wm_pad (t := t) (p := p) (by simpa using h))
theorem rwS0 (F : List (List Int)) : rwS F 0 = F.map (· ++ [0]) := by
  unfold rwS
  induction F with
  | nil => rfl
  | cons b F ih =>
    rw [List.flatMap_cons, ih]
    rfl
theorem rw_pad (row : List Int) : rwF (row ++ [0]) = (rwF row).map (· ++ [0]) := by
  unfold rwF
  rw [List.foldl_append]
  exact rwS0 _
theorem rb_pad {wt : Int} : ∀ {n : Nat} {row : List Int} {first : Nat}, wt - wtF row ≤ row.length → rbF n (row ++ [0]) wt first = (rbF n row wt first).map (· ++ [0])
  | 0, _, _, _ => rfl
  | n + 1, row, first, h => by
    have e : wtF (row ++ [0]) = wtF row := wtG_pad
    have el : (row ++ [0]).length = row.length + 1 := by simp
    unfold rbF
    rw [e, el]
    split
    · rfl
    · rw [show min (row.length + 1) (wt - wtF row).toNat = min row.length (wt - wtF row).toNat by omega, List.map_flatMap]
      refine flatMap_eq fun j hj => ?_
      have hj := List.mem_range.mp hj
      have hp : first + j < row.length := by omega
      rw [wm_pad hp]
      refine rb_pad ?_
      have : wtF (wmF row (first + j) 1) = wtF row + (1 + ((first + j : Nat) : Int)) * 1 := wtG_wm hp
      rw [this, wm_len]
      omega
theorem chs_pad : ∀ {a b : List Int}, Le a b → chsF (b ++ [0]) (a ++ [0]) = chsF b a
  | [], [], _ => by decide
  | x :: a, y :: b, h => by
    show chF y x.toNat * chsF (b ++ [0]) (a ++ [0]) = chF y x.toNat * chsF b a
    rw [chs_pad h.2.2]
theorem wg_pad : ∀ {a b : List Int} {i : Int}, Le a b → wgG i (a ++ [0]) (b ++ [0]) = wgG i a b
  | [], [], _, _ => rfl
  | x :: a, y :: b, i, h => by
    show List.replicate (y - x).toNat i ++ wgG (i + 1) (a ++ [0]) (b ++ [0]) = List.replicate (y - x).toNat i ++ wgG (i + 1) a b
    rw [wg_pad h.2.2]
def padQ (q : Ask4) : Ask4 := ⟨q.d, q.k, q.h ++ [0], q.f ++ [0]⟩
def padS (x : Sm4) : Sm4 := (x.1, x.2.1, padQ x.2.2)
theorem held_pad {L : Nat} {q : Ask4} (a : AskOk L q) : heldF (padQ q) = (heldF q).map padS := by
  unfold heldF
  have e : (padQ q).f.length = q.f.length + 1 := by simp [padQ]
  rw [e, List.range_succ, List.flatMap_append, List.map_flatMap]
  have hl : [q.f.length].flatMap (hel1 (padQ q)) = [] := by
    rw [List.flatMap_cons, List.flatMap_nil, List.append_nil]
    unfold hel1
    rw [if_neg]
    show ¬ (q.f ++ [0]).getD q.f.length 0 > 0
    rw [List.getD_eq_getElem?_getD, List.getElem?_append_right (Nat.le_refl _), Nat.sub_self]
    decide
  rw [hl, List.append_nil]
  refine flatMap_eq fun p hp => ?_
  have hp := List.mem_range.mp hp
  have hp' : p < q.h.length := by rw [a.hl, ← a.fl]; exact hp
  have eg : (padQ q).f.getD p 0 = q.f.getD p 0 := by
    show (q.f ++ [0]).getD p 0 = _
    rw [List.getD_eq_getElem?_getD, List.getElem?_append_left hp, ← List.getD_eq_getElem?_getD]
  unfold hel1
  rw [eg]
  split
  · show [((1 : Int), [(p : Int) + 1], (⟨q.d, q.k, wmF (q.h ++ [0]) p 1, wmF (q.f ++ [0]) p (-1)⟩ : Ask4))] = _
    rw [wm_pad hp', wm_pad hp]
    rfl
  · rfl
theorem few_pad {L : Nat} {q : Ask4} (a : AskOk L q) (d2 : 2 ≤ q.d) : fewF (padQ q) = (fewF q).map padS := by
  unfold fewF
  show (rwF (q.h ++ [0])).flatMap _ = _
  rw [rw_pad, List.flatMap_map, List.map_flatMap]
  refine flatMap_eq fun kp hk => ?_
  unfold few1
  have e : wtF (kp ++ [0]) = wtF kp := wtG_pad
  have w1 := wtG_nn (i := 1) (by decide) (Le.nn (rw_mem a.hn hk)).1
  have w2 := wtG_nn (i := 1) (by decide) a.fn
  have dL := a.dL
  show (rbF 8 (q.f ++ [0]) (q.d - 1 - wtF (kp ++ [0])) 0).map _ = _
  rw [e, rb_pad (by rw [a.fl]; unfold wtF; omega), List.map_map, List.map_map]
  refine List.map_congr_left fun fr hf => ?_
  obtain ⟨_, _, l1, l2, _⟩ := a.few d2 hk hf
  show few2 (padQ q) (kp ++ [0]) (fr ++ [0]) = padS (few2 q kp fr)
  unfold few2 padS padQ wgF
  rw [chs_pad l1, chs_pad l2, wg_pad l2]
  simp
theorem cnt_pad {L : Nat} : ∀ {n : Nat} {q : Ask4}, AskOk L q → cntE n (padQ q) = cntE n q
  | 0, _, _ => rfl
  | n + 1, q, a => by
    unfold cntE
    show (if q.k < 0 then (0 : Int) else if q.d = 1 then (if q.k = 0 then 1 else 0) else _) = _
    split
    · rfl
    · split
      · rfl
      · next hd =>
        have d2 : 2 ≤ q.d := by have := a.d1; omega
        have e : sumsF (padQ q) = (sumsF q).map padS := by
          unfold sumsF
          rw [held_pad a, few_pad a d2, List.map_append]
        rw [e, List.map_map]
        refine congrArg List.sum (List.map_congr_left fun x hx => ?_)
        show x.1 * prdF x.2.1 * cntE n (padQ x.2.2) = x.1 * prdF x.2.1 * cntE n x.2.2
        rw [cnt_pad (a.less d2 hx).1]
/-! trimmed and filled up -/
def trG : List Int → List Int
  | [] => []
  | x :: r => if x = 0 then trG r else x :: r
def trF (t : List Int) : List Int := (trG t.reverse).reverse
def padT (n : Nat) (t : List Int) : List Int := t ++ List.replicate (n - t.length) 0
theorem tr_snoc0 (t : List Int) : trF (t ++ [0]) = trF t := by
  unfold trF
  rw [List.reverse_append]
  rfl
theorem tr_snoc {t : List Int} {x : Int} (h : x ≠ 0) : trF (t ++ [x]) = t ++ [x] := by
  unfold trF
  rw [List.reverse_append]
  show (trG (x :: t.reverse)).reverse = _
  unfold trG
  rw [if_neg h]
  simp
theorem snoc_of {α : Type} {t : List α} (h : t ≠ []) : ∃ s x, t = s ++ [x] := ⟨t.dropLast, t.getLast h, (List.dropLast_concat_getLast h).symm⟩
theorem tr_all : ∀ {n : Nat} {t : List Int}, t.length = n → (trF t).length ≤ n ∧ padT n (trF t) = t ∧ (trF t = [] ∨ ∃ s x, trF t = s ++ [x] ∧ x ≠ 0)
  | 0, t, h => by
    rw [List.length_eq_zero_iff.mp h]
    exact ⟨Nat.le_refl _, rfl, .inl rfl⟩
  | n + 1, t, h => by
    obtain ⟨s, x, rfl⟩ := snoc_of (t := t) (by rintro rfl; cases h)
    have hs : s.length = n := by simpa using h
    by_cases e : x = 0
    · subst e
      obtain ⟨h1, h2, h3⟩ := tr_all hs
      rw [tr_snoc0]
      refine ⟨by omega, ?_, h3⟩
      unfold padT at h2 ⊢
      rw [show n + 1 - (trF s).length = (n - (trF s).length) + 1 by omega, List.replicate_succ', ← List.append_assoc, h2]
    · rw [tr_snoc e]
      exact ⟨by omega, by unfold padT; rw [h, Nat.sub_self]; simp, .inr ⟨s, x, rfl, e⟩⟩
theorem wtG_snoc : ∀ {s : List Int} {x i : Int}, wtG i (s ++ [x]) = wtG i s + (i + s.length) * x
  | [], x, i => by simp [wtG]
  | y :: s, x, i => by
    show i * y + wtG (i + 1) (s ++ [x]) = i * y + wtG (i + 1) s + _
    rw [wtG_snoc, List.length_cons, show i + 1 + (s.length : Int) = i + ((s.length + 1 : Nat) : Int) by omega]
    omega
theorem nn_of_snoc {s : List Int} {x : Int} (h : Nn (s ++ [x])) : Nn s ∧ 0 ≤ x := by
  induction s with
  | nil => exact ⟨fun i => by simp, (Nn.cons.mp h).1⟩
  | cons y s ih =>
    obtain ⟨a, b⟩ := Nn.cons.mp h
    exact ⟨Nn.cons.mpr ⟨a, (ih b).1⟩, (ih b).2⟩
/-- too light for its last place -/
theorem last0 {t : List Int} {n : Nat} (hl : t.length = n + 1) (hn : Nn t) (hw : wtF t ≤ n) : ∃ s, t = s ++ [0] ∧ s.length = n ∧ Nn s ∧ wtF s = wtF t := by
  obtain ⟨s, x, rfl⟩ := snoc_of (t := t) (by rintro rfl; cases hl)
  have hs : s.length = n := by simpa using hl
  obtain ⟨n1, n2⟩ := nn_of_snoc hn
  have w := wtG_nn (i := 1) (by decide) n1
  have e : wtF (s ++ [x]) = wtF s + (1 + (s.length : Int)) * x := wtG_snoc
  have x0 : x = 0 := by
    by_cases h : x = 0
    · exact h
    · have : (1 + (s.length : Int)) * 1 ≤ (1 + (s.length : Int)) * x := Int.mul_le_mul_of_nonneg_left (by omega) (by omega)
      unfold wtF at *
      omega
  subst x0
  exact ⟨s, rfl, hs, n1, by rw [e]; simp⟩
theorem wt_rep {n : Nat} : ∀ {t : List Int} {i : Int}, wtG i (t ++ List.replicate n 0) = wtG i t := by
  induction n with
  | zero => intro t i; simp
  | succ n ih =>
    intro t i
    rw [List.replicate_succ', ← List.append_assoc, wtG_pad, ih]
/-! few keys -/
def rowsG : Nat → Nat → Nat → List (List Int)
  | _, 0, _ => [[]]
  | i, n + 1, b => (List.range (b / i + 1)).flatMap fun x => (rowsG (i + 1) n (b - i * x)).map ((x : Int) :: ·)
theorem rows_mem : ∀ {n i b : Nat} {t : List Int}, 1 ≤ i → t.length = n → Nn t → wtG (i : Int) t ≤ b → t ∈ rowsG i n b
  | 0, i, b, t, _, hl, _, _ => by rw [List.length_eq_zero_iff.mp hl]; exact List.mem_cons_self
  | n + 1, i, b, [], _, hl, _, _ => nomatch hl
  | n + 1, i, b, x :: t, hi, hl, hn, hw => by
    obtain ⟨x0, tn⟩ := Nn.cons.mp hn
    obtain ⟨m, rfl⟩ := Int.eq_ofNat_of_zero_le x0
    have w := wtG_nn (i := (i : Int) + 1) (by omega) tn
    unfold wtG at hw
    have hm : i * m ≤ b := by
      have : ((i * m : Nat) : Int) = (i : Int) * (m : Int) := Int.natCast_mul i m
      omega
    unfold rowsG
    refine List.mem_flatMap.mpr ⟨m, List.mem_range.mpr (Nat.lt_succ_of_le ((Nat.le_div_iff_mul_le (by omega)).mpr (by rw [Nat.mul_comm]; exact hm))), List.mem_map.mpr ⟨t, rows_mem (by omega) (by simpa using hl) tn ?_, rfl⟩⟩
    have : ((i * m : Nat) : Int) = (i : Int) * (m : Int) := Int.natCast_mul i m
    show wtG ((i : Int) + 1) t ≤ _
    omega
def rows19 : Bool := (List.range 6).all fun L => decide ((rowsG 1 L 5).length ≤ 19)
theorem rows19_ok : rows19 = true := by decide +kernel
/-! the law's own sums -/
def laS (row : List Int) (sp : Nat) (found : List (List Int)) (at_ : Nat) : List (List Int) := found.flatMap fun b => (List.range (sp / (at_ + 1) + 1)).map fun m : Nat => b ++ [row.getD at_ 0 + (m : Int)]
def laG (row : List Int) (sp n : Nat) : List (List Int) := (List.range n).foldl (laS row sp) [[]]
def laF (row : List Int) (sp : Nat) : List (List Int) := (laG row sp row.length).filter fun t => decide (wtF t = wtF row + (sp : Int))
def per45 : Bool := (List.range 6).all fun L => (rowsG 1 L 5).all fun f => (List.range 6).all fun s => (laF f s).isPerm (rbF 8 f (wtF f + (s : Int)) 0)
theorem per45_ok : per45 = true := by decide +kernel
theorem la_perm {L s : Nat} {f : List Int} (hL : L ≤ 5) (hl : f.length = L) (hn : Nn f) (hw : wtF f ≤ 5) (hs : s ≤ 5) : (laF f s).Perm (rbF 8 f (wtF f + (s : Int)) 0) := by
  have h := per45_ok
  unfold per45 at h
  rw [List.all_eq_true] at h
  have h := h L (List.mem_range.mpr (by omega))
  rw [List.all_eq_true] at h
  have h := h f (rows_mem (by decide) hl hn hw)
  rw [List.all_eq_true] at h
  exact List.isPerm_iff.mp (h s (List.mem_range.mpr (by omega)))
def wysG : Int → List Int → List Int → List Int → List Int → Int
  | i, kp :: a, h :: b, f :: c, fr :: d => chF h kp.toNat * chF fr f.toNat * i ^ (fr - f).toNat * wysG (i + 1) a b c d
  | _, _, _, _, _ => 1
theorem prd_app (a b : List Int) : prdF (a ++ b) = prdF a * prdF b := by
  have go : ∀ (b : List Int) (x : Int), b.foldl (· * ·) x = x * b.foldl (· * ·) 1 := fun b => by
    induction b with
    | nil => intro x; simp
    | cons y b ih =>
      intro x
      rw [List.foldl_cons, List.foldl_cons, ih, ih (1 * y), Int.one_mul, Int.mul_assoc]
  unfold prdF
  rw [List.foldl_append, go]
theorem prd_rep (n : Nat) (i : Int) : prdF (List.replicate n i) = i ^ n := by
  induction n with
  | zero => simp [prdF]
  | succ n ih =>
    rw [List.replicate_succ', prd_app, ih, Int.pow_succ]
    congr 1
    show 1 * i = i
    omega
theorem wys_eq : ∀ {i : Int} {kp h f fr : List Int}, Le kp h → Le f fr → kp.length = f.length → wysG i kp h f fr = chsF h kp * chsF fr f * prdF (wgG i f fr)
  | i, [], [], [], [], _, _, _ => by simp [wysG, chsF, wgG, prdF]
  | i, x :: a, y :: b, z :: c, u :: d, h1, h2, e => by
    unfold wysG chsF wgG
    rw [wys_eq h1.2.2 h2.2.2 (by simpa using e), prd_app, prd_rep]
    simp only [Int.mul_assoc, Int.mul_comm, Int.mul_left_comm]

theorem nd_le {α : Type} [DecidableEq α] : ∀ {l L : List α}, l.Nodup → (∀ x ∈ l, x ∈ L) → l.length ≤ L.length
  | [], L, _, _ => Nat.zero_le _
  | x :: r, L, nd, h => by
    rw [List.nodup_cons] at nd
    have hx : x ∈ L := h x List.mem_cons_self
    have := nd_le (L := L.erase x) nd.2 fun y hy => (List.mem_erase_of_ne fun e : y = x => nd.1 (e ▸ hy)).mpr (h y (List.mem_cons_of_mem _ hy))
    rw [List.length_erase_of_mem hx] at this
    have := List.length_pos_of_mem hx
    rw [List.length_cons]
    omega
section
variable {κ : Type} [DecidableEq κ]
def tK (R : List (κ × Int)) : List (κ × V) := R.map fun x => (x.1, V.int x.2)
def getP : List (κ × Int) → κ → Int
  | [], _ => 0
  | (a, b) :: r, k => if a = k then b else getP r k
def setP : List (κ × Int) → κ → Int → List (κ × Int)
  | [], k, v => [(k, v)]
  | (a, b) :: r, k, v => if a = k then (a, v) :: r else (a, b) :: setP r k v
theorem tK_len (R : List (κ × Int)) : (tK R).length = R.length := by unfold tK; rw [List.length_map]
theorem tK_val (k : κ) : ∀ R : List (κ × Int), valV (tK R) k = if k ∈ R.map (·.1) then some (.int (getP R k)) else none
  | [] => rfl
  | (a, b) :: r => by
    have ih := tK_val k r
    show valV ((a, V.int b) :: tK r) k = _
    by_cases e : a = k
    · subst e
      rw [valV_pos rfl]
      simp [getP]
    · rw [valV_neg e, ih]
      have : ¬ k = a := fun z => e z.symm
      show _ = if k ∈ a :: r.map (·.1) then some (V.int (if a = k then b else getP r k)) else none
      rw [if_neg e]
      by_cases h : k ∈ r.map (·.1)
      · rw [if_pos h, if_pos (List.mem_cons_of_mem _ h)]
      · rw [if_neg h, if_neg fun z => (List.mem_cons.mp z).elim this h]
theorem setP_keys (k : κ) (v : Int) : ∀ R : List (κ × Int), (setP R k v).map (·.1) = if k ∈ R.map (·.1) then R.map (·.1) else R.map (·.1) ++ [k]
  | [] => by simp [setP]
  | (a, b) :: r => by
    have ih := setP_keys k v r
    unfold setP
    by_cases e : a = k
    · subst e; simp
    · rw [if_neg e, List.map_cons, ih]
      have : ¬ k = a := fun z => e z.symm
      show _ = if k ∈ a :: r.map (·.1) then a :: r.map (·.1) else a :: r.map (·.1) ++ [k]
      by_cases h : k ∈ r.map (·.1)
      · rw [if_pos h, if_pos (List.mem_cons_of_mem _ h)]
      · rw [if_neg h, if_neg fun z => (List.mem_cons.mp z).elim this h]; rfl
theorem setP_nd {k : κ} {v : Int} {R : List (κ × Int)} (h : (R.map (·.1)).Nodup) : ((setP R k v).map (·.1)).Nodup := by
  rw [setP_keys]
  by_cases e : k ∈ R.map (·.1)
  · rw [if_pos e]; exact h
  · rw [if_neg e]
    refine List.nodup_append.mpr ⟨h, by simp, fun a ha b hb z => ?_⟩
    rw [List.mem_singleton.mp hb] at z
    exact e (z ▸ ha)
theorem setP_mem {k : κ} {v : Int} : ∀ {R : List (κ × Int)} {x : κ × Int}, x ∈ setP R k v → x ∈ R ∨ x = (k, v)
  | [], x, h => .inr (List.mem_singleton.mp h)
  | (a, b) :: r, x, h => by
    unfold setP at h
    by_cases e : a = k
    · rw [if_pos e] at h
      rcases List.mem_cons.mp h with h | h
      · exact .inr (by rw [h, e])
      · exact .inl (List.mem_cons_of_mem _ h)
    · rw [if_neg e] at h
      rcases List.mem_cons.mp h with h | h
      · exact .inl (by rw [h]; exact List.mem_cons_self)
      · exact (setP_mem h).imp (List.mem_cons_of_mem _) id
theorem tK_put {k : κ} {v : Int} : ∀ {R : List (κ × Int)}, (R.map (·.1)).Nodup → putK (tK R) k (.int v) = tK (setP R k v)
  | [], _ => rfl
  | (a, b) :: r, nd => by
    rw [List.map_cons, List.nodup_cons] at nd
    have ih := tK_put (k := k) (v := v) nd.2
    unfold putK at ih ⊢
    show (if (((a, V.int b) :: tK r).any fun kv => decide (kv.1 = k)) = true then _ else _) = _
    rw [List.any_cons]
    by_cases e : a = k
    · subst e
      rw [decide_eq_true rfl, Bool.true_or, if_pos rfl]
      unfold setP
      rw [if_pos rfl]
      show ((a, V.int b) :: tK r).map _ = (a, V.int v) :: tK r
      rw [List.map_cons, if_pos rfl]
      congr 1
      conv => rhs; rw [← List.map_id (tK r)]
      refine List.map_congr_left fun x hx => ?_
      obtain ⟨y, hy, rfl⟩ := List.mem_map.mp hx
      rw [if_neg fun z => nd.1 (List.mem_map.mpr ⟨y, hy, z⟩)]
      rfl
    · rw [decide_eq_false e, Bool.false_or]
      unfold setP
      rw [if_neg e]
      show _ = (a, V.int b) :: tK (setP r k v)
      rw [← ih]
      by_cases c : ((tK r).any fun kv => decide (kv.1 = k)) = true
      · rw [if_pos c, if_pos c]
        show ((a, V.int b) :: tK r).map _ = _
        rw [List.map_cons, if_neg e]
      · rw [if_neg c, if_neg c]
        rfl
end
/-! the promises -/
def But (b : Addr) (H H' : Hp) : Prop := ∀ c o, H c = some o → c ≠ b → H' c = some o
theorem bits60 {z : Int} (h0 : 0 < z) (h1 : z ≤ 10 ^ 60) : z ≠ 0 ∧ z.natAbs < 2 ^ 512 := by
  have : (10 : Nat) ^ 60 < 2 ^ 512 := by decide
  constructor <;> omega
theorem But.of_same {b : Addr} {H H' : Hp} (s : Same H H') : But b H H' := fun c o e _ => s _ _ e
theorem But.trans {b : Addr} {H H' H'' : Hp} (s : But b H H') (t : But b H' H'') : But b H H'' := fun c o e n => t c o (s c o e n) n
theorem But.same {b : Addr} {H H1 H2 : Hp} (s : Same H H1) (nb : H b = none) (t : But b H1 H2) : Same H H2 := fun c o e => t c o (s c o e) (by rintro rfl; rw [nb] at e; cases e)
theorem cut_take {vs : List V} {k : Nat} : cutV vs none (some (k : Int)) = vs.take k := by
  unfold cutV
  rw [HT.sIx_nat, HT.sIx_none, List.drop_zero, Nat.sub_zero]
  exact List.take_eq_take_iff.mpr (by omega)
def Wide (d k : Nat) : Prop := 1 ≤ d ∧ ((d ≤ 4 ∧ k ≤ 6) ∨ (d = 5 ∧ k ≤ 3))
def spBetQ (_ : PySem.W.Frag) : Sp := fun vs H Q _ => ∃ i lo hi : Int, vs = [.int i, .int lo, .int hi] ∧ lo ≤ i ∧ i ≤ hi ∧ Q .non H
def spWidQ (_ : PySem.W.Frag) : Sp := fun vs H Q _ => ∃ d k : Nat, vs = [.int d, .int k] ∧ Wide d k ∧ Q .non H
theorem cut_dropI {vs : List V} {i : Nat} (h : i ≤ vs.length) : cutV vs (some (i : Int)) none = vs.drop i := by
  unfold cutV
  rw [HT.sIx_nat, HT.sIx_none, Nat.min_eq_left h, List.take_of_length_le (by simp)]
theorem kit_self {K : PySem.W.Frag} {n : String} : PySem.W.kitOne K (.type n) (.type n) = some true := by
  unfold PySem.W.kitOne
  simp
def spCell (K : PySem.W.Frag) : Sp := fun vs H Q _ => ∃ (a : Addr) (ns : List Int) (k : Int), vs = [.ref a, .int k] ∧ SqL K H a (ns.map V.int) ∧ 0 ≤ k ∧ ∀ z, Q (.int z) H
def sp_law (K : PySem.W.Frag) : Sp := fun vs H Q _ => ∃ (a : Addr) (ns : List Int), vs = [.ref a] ∧ SqL K H a (ns.map V.int) ∧ ns.length ≤ 63 ∧ ∀ H', Q (.bl true) H'
def spGreat (_ : PySem.W.Frag) : Sp := fun vs H Q _ => ∃ x : Int, vs = [.int x] ∧ ∀ z, 0 ≤ z → Q (.int z) H
def spDig (_ : PySem.W.Frag) : Sp := fun vs H Q _ => ∃ (b : Addr) (m z : Int), vs = [.ref b, .int m] ∧ H b = some (.lst [.int z]) ∧ 0 ≤ z ∧ 0 < m ∧ m ≤ 10 ^ 60 ∧ ∀ y z', 0 ≤ y → y < m → 0 ≤ z' → Q (.int y) (upd H b (.lst [.int z']))
def spCho (_ : PySem.W.Frag) : Sp := fun vs H Q _ => ∃ (n : Int) (k : Nat), vs = [.int n, .int k] ∧ (k : Int) ≤ n ∧ n ≤ 15 ∧ Q (.int (chF n k)) H
def spWm (_ : PySem.W.Frag) : Sp := fun vs H Q _ => ∃ (v : V) (t : List Int) (p : Nat) (m : Int), vs = [v, .int p, .int m] ∧ Is H (tI t) v ∧ p < t.length ∧ t.length ≤ 5 ∧ ∀ u H', Same H H' → Is H' (tI (wmF t p m)) u → Q u H'
theorem ti_cut {t : List Int} {p : Nat} (H' : Hp) (vs : List V) (h : Iss H' (t.map .i) vs) : Iss H' ((t.take p).map .i) (cutV vs none (some (p : Int))) := by
  rw [cut_take, List.map_take]
  exact h.take p
theorem ti_drop {t : List Int} {p : Nat} (hp : p ≤ t.length) (H' : Hp) (vs : List V) (h : Iss H' (t.map .i) vs) : Iss H' ((t.drop p).map .i) (cutV vs (some (p : Int)) none) := by
  rw [cut_dropI (by rw [h.length, List.length_map]; exact hp), List.map_drop]
  exact h.drop p
theorem lineB {n : Nat} (h : n ≤ 1048576) : n < sizeLine := by rw [sizeLine_eq]; omega
theorem getP_mem {κ : Type} [DecidableEq κ] {k : κ} : ∀ {R : List (κ × Int)}, k ∈ R.map (·.1) → (k, getP R k) ∈ R
  | [], h => nomatch h
  | (a, b) :: r, h => by
    unfold getP
    by_cases e : a = k
    · rw [if_pos e, e]; exact List.mem_cons_self
    · rw [if_neg e]
      rw [List.map_cons, List.mem_cons] at h
      exact List.mem_cons_of_mem _ (getP_mem (h.resolve_left fun z => e z.symm))
theorem getP_set {κ : Type} [DecidableEq κ] {k : κ} {v : Int} : ∀ {R : List (κ × Int)}, getP (setP R k v) k = v ∧ k ∈ (setP R k v).map (·.1)
  | [] => by simp [setP, getP]
  | (a, b) :: r => by
    obtain ⟨h1, h2⟩ := getP_set (k := k) (v := v) (R := r)
    unfold setP
    by_cases e : a = k
    · rw [if_pos e]; exact ⟨if_pos e, by rw [List.map_cons, e]; exact List.mem_cons_self⟩
    · rw [if_neg e]; exact ⟨by unfold getP; rw [if_neg e]; exact h1, by rw [List.map_cons]; exact List.mem_cons_of_mem _ h2⟩
def rwL (t : List Int) : D := .l (t.map .i)
def qD (q : Ask4) : D := .t [.i q.d, .i q.k, tI q.h, tI q.f]
def smD (x : Sm4) : D := .t [.i x.1, rwL x.2.1, qD x.2.2]
def kq (q : Ask4) : List (Mx Int) := [.inl q.d, .inl q.k, .inr q.h, .inr q.f]
theorem kq_inj {q r : Ask4} (h : kq q = kq r) : q = r := by
  obtain ⟨a, b, c, d⟩ := q
  obtain ⟨a', b', c', d'⟩ := r
  unfold kq at h
  simp only [List.cons.injEq, Sum.inl.injEq, Sum.inr.injEq, and_true] at h
  obtain ⟨rfl, rfl, rfl, rfl⟩ := h
  rfl
theorem isK_q {H : Hp} {q : Ask4} {v : V} (h : Is H (qD q) v) : IsK H (kq q) v := ⟨rfl, h⟩
theorem of_rwL {H : Hp} {t : List Int} {v : V} (h : Is H (rwL t) v) : ∃ a, v = .ref a ∧ H a = some (.lst (t.map V.int)) := by
  obtain ⟨a, vs, rfl, ha, hi⟩ := of_l h
  rw [iss_ints hi] at ha
  exact ⟨a, rfl, ha⟩
theorem is_rwL {H : Hp} {t : List Int} {a : Addr} (h : H a = some (.lst (t.map V.int))) : Is H (rwL t) (.ref a) := is_l h (ints_iss t)
theorem nw_row {H0 H : Hp} {t : List Int} {a : Addr} (n : H0 a = none) (h : Is H (rwL t) (.ref a)) : Is (nw H0 H) (rwL t) (.ref a) := by
  obtain ⟨_, e, ha⟩ := of_rwL h
  cases e
  exact is_rwL (by rw [nw_new n]; exact ha)
theorem ts_ti {H H' : Hp} (t : TupS H H') {xs : List Int} {v : V} (h : Is H (tI xs) v) : Is H' (tI xs) v := by
  obtain ⟨a, rfl, ha⟩ := of_tI h
  exact is_tI (t _ _ ha)
theorem ts_tis {H H' : Hp} (t : TupS H H') : ∀ {ts : List (List Int)} {vs : List V}, Iss H (ts.map tI) vs → Iss H' (ts.map tI) vs
  | [], _, h => by rw [of_nil h]; exact iss_nil
  | p :: ps, _, h => by
    obtain ⟨u, us, rfl, h1, h2⟩ := of_cons h
    exact iss_cons (ts_ti t h1) (ts_tis t h2)
theorem nw_ts {H0 H : Hp} (s : Same H0 H) : TupS H (nw H0 H) := fun a xs e => nw_tup s e
theorem ts_q {H H' : Hp} (t : TupS H H') {q : Ask4} {v : V} (h : Is H (qD q) v) : Is H' (qD q) v := by
  obtain ⟨a, vs, rfl, ha, hi⟩ := of_t h
  obtain ⟨u1, us, rfl, h1, hi⟩ := of_cons hi
  obtain ⟨u2, us, rfl, h2, hi⟩ := of_cons hi
  obtain ⟨u3, us, rfl, h3, hi⟩ := of_cons hi
  obtain ⟨u4, us, rfl, h4, hi⟩ := of_cons hi
  rw [of_nil hi, of_i h1, of_i h2] at ha
  exact is_t (t _ _ ha) (iss_cons is_i (iss_cons is_i (iss_cons (ts_ti t h3) (iss_cons (ts_ti t h4) iss_nil))))
def RowOk (t : List Int) : Prop := Nn t ∧ t.length ≤ 5 ∧ (t = [] ∨ ∃ s x, t = s ++ [x] ∧ 0 < x)
def spIsR (_ : PySem.W.Frag) : Sp := fun vs H Q _ => ∃ (v : V) (t : List Int), vs = [v] ∧ Is H (rwL t) v ∧ RowOk t ∧ Q (.bl true) H
def spRwL (_ : PySem.W.Frag) : Sp := fun vs H Q _ => ∃ (v : V) (t : List Int), vs = [v] ∧ Is H (rwL t) v ∧ t.length ≤ 5 ∧ ∀ H', Same H H' → Q (.int (wtF t)) H'
def spRwT (_ : PySem.W.Frag) : Sp := fun vs H Q _ => ∃ (v : V) (t : List Int), vs = [v] ∧ Is H (tI t) v ∧ t.length ≤ 5 ∧ ∀ H', Same H H' → Q (.int (wtF t)) H'
def spNeR (_ : PySem.W.Frag) : Sp := fun vs H Q _ => ∃ (d : Int) (v1 v2 : V) (a b : List Int), vs = [.int d, v1, v2] ∧ Is H (rwL a) v1 ∧ Is H (rwL b) v2 ∧ RowOk a ∧ RowOk b ∧ wtF a + wtF b = d ∧ ∀ H', Same H H' → Q .non H'
def spPrd (_ : PySem.W.Frag) : Sp := fun vs H Q _ => ∃ (v : V) (ws : List Int), vs = [v] ∧ Is H (rwL ws) v ∧ (∀ w ∈ ws, 1 ≤ w ∧ w ≤ 5) ∧ Q (.int (prdF ws)) H
def spFil (_ : PySem.W.Frag) : Sp := fun vs H Q _ => ∃ (v : V) (t : List Int) (n : Nat), vs = [v, .int n] ∧ Is H (rwL t) v ∧ t.length ≤ n ∧ n ≤ 5 ∧ ∀ u H', Same H H' → Is H' (tI (padT n t)) u → Q u H'
def spRwn (_ : PySem.W.Frag) : Sp := fun vs H Q _ => ∃ (v : V) (t : List Int), vs = [v] ∧ Is H (tI t) v ∧ Nn t ∧ t.sum ≤ 5 ∧ t.length ≤ 5 ∧ ∀ l H', Same H H' → H l = none → Is H' (.l ((rwF t).map tI)) (.ref l) → Q (.ref l) H'
def spRby (n : Nat) (_ : PySem.W.Frag) : Sp := fun vs H Q _ => ∃ (v : V) (t : List Int) (wt : Int) (fi : Nat), vs = [v, .int wt, .int fi] ∧ Is H (tI t) v ∧ Nn t ∧ t.length ≤ 5 ∧ (wt - wtF t).toNat + 1 ≤ n ∧ n ≤ 8 ∧ -1000 ≤ wt ∧ wt ≤ 1000 ∧ -1000 ≤ wtF t ∧ wtF t ≤ 1000 ∧ fi ≤ 5 ∧ ∀ l H', Same H H' → H l = none → Is H' (.l ((rbF n t wt fi).map tI)) (.ref l) → Q (.ref l) H'
def spChs (_ : PySem.W.Frag) : Sp := fun vs H Q _ => ∃ (v1 v2 : V) (b a : List Int), vs = [v1, v2] ∧ Is H (tI b) v1 ∧ Is H (tI a) v2 ∧ Le a b ∧ b.sum ≤ 5 ∧ ∀ H', Same H H' → Q (.int (chsF b a)) H'
def spWgn (_ : PySem.W.Frag) : Sp := fun vs H Q _ => ∃ (v1 v2 : V) (f fr : List Int), vs = [v1, v2] ∧ Is H (tI f) v1 ∧ Is H (tI fr) v2 ∧ Le f fr ∧ fr.length ≤ 5 ∧ fr.sum ≤ 5 ∧ ∀ l H', Same H H' → H l = none → Is H' (rwL (wgF f fr)) (.ref l) → Q (.ref l) H'
def spOne (g : Ask4 → List Sm4) : Sp := fun vs H Q _ => ∃ (v1 v2 : V) (q : Ask4) (L : Nat), vs = [.int q.d, .int q.k, v1, v2] ∧ Is H (tI q.h) v1 ∧ Is H (tI q.f) v2 ∧ AskOk L q ∧ 2 ≤ q.d ∧ ∀ l H', Same H H' → H l = none → Is (nw H H') (.l ((g q).map smD)) (.ref l) → Q (.ref l) H'
def spSms (_ : PySem.W.Frag) : Sp := fun vs H Q _ => ∃ (v : V) (q : Ask4) (L : Nat), vs = [v] ∧ Is H (qD q) v ∧ AskOk L q ∧ 2 ≤ q.d ∧ ∀ l H', Same H H' → H l = none → Is (nw H H') (.l ((sumsF q).map smD)) (.ref l) → Q (.ref l) H'
theorem wg_len : ∀ {a b : List Int} {k : Int}, Le a b → ((wgG k a b).length : Int) = b.sum - a.sum
  | [], [], _, _ => rfl
  | x :: a, y :: b, k, h => by
    show ((List.replicate (y - x).toNat k ++ wgG (k + 1) a b).length : Int) = _
    have := wg_len (k := k + 1) h.2.2
    have h1 := h.2.1
    rw [List.length_append, List.length_replicate, List.sum_cons, List.sum_cons]
    omega
theorem wg_mem : ∀ {a b : List Int} {k : Int}, Le a b → ∀ w ∈ wgG k a b, k ≤ w ∧ w < k + a.length
  | [], [], _, _, w, h => nomatch h
  | x :: a, y :: b, k, h, w, hw => by
    rcases List.mem_append.mp (show w ∈ List.replicate (y - x).toNat k ++ wgG (k + 1) a b from hw) with hw | hw
    · have := List.eq_of_mem_replicate hw
      rw [List.length_cons]
      omega
    · have := wg_mem h.2.2 w hw
      rw [List.length_cons]
      omega
def KnQ (L : Nat) (R : List (List (Mx Int) × Int)) : Prop := (R.map (·.1)).Nodup ∧ ∀ x ∈ R, ∃ q, AskOk L q ∧ 0 ≤ q.k ∧ x = (kq q, cF q)
def allQ (L : Nat) : List (List (Mx Int)) := (List.range 6).flatMap fun d : Nat => (List.range 7).flatMap fun k : Nat => (rowsG 1 L 5).flatMap fun h => (rowsG 1 L 5).map fun f => kq ⟨(d : Int), (k : Int), h, f⟩
theorem flat_le {α β : Type} {g : α → List β} {m : Nat} : ∀ {xs : List α}, (∀ x ∈ xs, (g x).length ≤ m) → (xs.flatMap g).length ≤ xs.length * m
  | [], _ => Nat.zero_le _
  | x :: xs, h => by
    rw [List.flatMap_cons, List.length_append, List.length_cons, Nat.succ_mul]
    have := flat_le (xs := xs) fun y hy => h y (List.mem_cons_of_mem _ hy)
    have := h x List.mem_cons_self
    omega
theorem allQ_len {L : Nat} (h : L ≤ 5) : (allQ L).length ≤ 15162 := by
  have r : (rowsG 1 L 5).length ≤ 19 := by
    have h1 := rows19_ok
    unfold rows19 at h1
    rw [List.all_eq_true] at h1
    simpa using h1 L (List.mem_range.mpr (by omega))
  have e1 : ∀ (d k : Nat) (h' : List Int), ((rowsG 1 L 5).map fun f => kq ⟨(d : Int), (k : Int), h', f⟩).length ≤ 19 := fun d k h' => by rw [List.length_map]; exact r
  have e2 : ∀ (d k : Nat), ((rowsG 1 L 5).flatMap fun h => (rowsG 1 L 5).map fun f => kq ⟨(d : Int), (k : Int), h, f⟩).length ≤ 361 := fun d k => Nat.le_trans (flat_le fun h' _ => e1 d k h') (by omega)
  have e3 : ∀ d : Nat, ((List.range 7).flatMap fun k : Nat => (rowsG 1 L 5).flatMap fun h => (rowsG 1 L 5).map fun f => kq ⟨(d : Int), (k : Int), h, f⟩).length ≤ 2527 := fun d => by
    have := flat_le (xs := List.range 7) (m := 361) fun k _ => e2 d k
    rw [List.length_range] at this
    exact this
  have := flat_le (xs := List.range 6) (m := 2527) fun d _ => e3 d
  rw [List.length_range] at this
  exact this
theorem KnQ.len {L : Nat} {R : List (List (Mx Int) × Int)} (h : KnQ L R) (h5 : L ≤ 5) : R.length ≤ 15162 := by
  rw [← List.length_map (f := (·.1))]
  refine Nat.le_trans (nd_le h.1 fun x hx => ?_) (allQ_len h5)
  obtain ⟨y, hy, rfl⟩ := List.mem_map.mp hx
  obtain ⟨q, a, k0, rfl⟩ := h.2 y hy
  have wh := wtG_nn (i := 1) (by decide) a.hn
  have wf := wtG_nn (i := 1) (by decide) a.fn
  have w := a.wt
  have d1 := a.d1
  have dL := a.dL
  have k6 := a.k6
  unfold wtF at w
  refine List.mem_flatMap.mpr ⟨q.d.toNat, List.mem_range.mpr (by omega), List.mem_flatMap.mpr ⟨q.k.toNat, List.mem_range.mpr (by omega), List.mem_flatMap.mpr ⟨q.h, rows_mem (by decide) a.hl a.hn (by show wtG 1 q.h ≤ 5; omega), List.mem_map.mpr ⟨q.f, rows_mem (by decide) a.fl a.fn (by show wtG 1 q.f ≤ 5; omega), ?_⟩⟩⟩⟩
  show kq ⟨((q.d.toNat : Nat) : Int), ((q.k.toNat : Nat) : Int), q.h, q.f⟩ = kq q
  rw [show ((q.d.toNat : Nat) : Int) = q.d by omega, show ((q.k.toNat : Nat) : Int) = q.k by omega]
theorem KnQ.get {L : Nat} {R : List (List (Mx Int) × Int)} (h : KnQ L R) {q : Ask4} (hk : kq q ∈ R.map (·.1)) : getP R (kq q) = cF q := by
  obtain ⟨r, _, _, e⟩ := h.2 _ (getP_mem hk)
  simp only [Prod.mk.injEq] at e
  rw [e.2, kq_inj e.1]
theorem KnQ.put {L : Nat} {R : List (List (Mx Int) × Int)} (h : KnQ L R) {q : Ask4} (a : AskOk L q) (k0 : 0 ≤ q.k) : KnQ L (setP R (kq q) (cF q)) :=
  ⟨setP_nd h.1, fun x hx => (setP_mem hx).elim (fun hx => h.2 x hx) fun e => ⟨q, a, k0, e⟩⟩
theorem ltsM_but {P : Program} {w : World} {H H' : Hp} {a : Addr} {kvs : List (List (Mx Int) × V)} (d : DM P w H a kvs) (k : But a H H') : LTS H H' := by
  obtain ⟨_, _, xs, _, e⟩ := d
  exact ⟨fun b ys h => k _ _ h (by rintro rfl; rw [e] at h; cases h), fun b ys h => k _ _ h (by rintro rfl; rw [e] at h; cases h)⟩
def spCnt (P : Program) (w : World) (n : Nat) : Sp := fun vs H Q _ => ∃ (v : V) (kn : Addr) (q : Ask4) (L : Nat) (R : List (List (Mx Int) × Int)), vs = [v, .ref kn] ∧ Is H (qD q) v ∧ AskOk L q ∧ muF q + 1 ≤ (n : Int) ∧ DM P w H kn (tK R) ∧ KnQ L R ∧ ∀ R' H', But kn H H' → DM P w H' kn (tK R') → KnQ L R' → Q (.int (cF q)) H'
def spAsk (_ : PySem.W.Frag) : Sp := fun vs H Q _ => ∃ (d k : Nat) (v1 v2 : V) (a b : List Int), vs = [.int d, .int k, v1, v2] ∧ Wide d k ∧ Is H (rwL a) v1 ∧ Is H (rwL b) v2 ∧ RowOk a ∧ RowOk b ∧ wtF a + wtF b = d ∧ a.length ≤ d ∧ b.length ≤ d ∧ ∀ u H', Same H H' → Is H' (qD ⟨d, k, padT d a, padT d b⟩) u → Q u H'
def spByE (_ : PySem.W.Frag) : Sp := fun vs H Q _ => ∃ (d k : Nat) (v1 v2 : V) (a b : List Int), vs = [.int d, .int k, v1, v2] ∧ Wide d k ∧ Is H (rwL a) v1 ∧ Is H (rwL b) v2 ∧ RowOk a ∧ RowOk b ∧ wtF a + wtF b = d ∧ a.length ≤ d ∧ b.length ≤ d ∧ ∀ H', Same H H' → Q (.int (cF ⟨d, k, padT d a, padT d b⟩)) H'
theorem sm_words {L : Nat} {q : Ask4} (a : AskOk L q) (d2 : 2 ≤ q.d) {x : Sm4} (hx : x ∈ sumsF q) : (0 ≤ x.1 ∧ x.1 ≤ 1024) ∧ (∀ w ∈ x.2.1, 1 ≤ w ∧ w ≤ 5) ∧ x.2.1.length ≤ 5 := by
  unfold sumsF at hx
  rcases List.mem_append.mp hx with hx | hx
  · obtain ⟨_, _, e1, w, e2, w1, w5⟩ := a.held hx
    rw [e1, e2]
    exact ⟨⟨by decide, by decide⟩, fun y hy => by rw [List.mem_singleton.mp hy]; exact ⟨w1, w5⟩, by simp⟩
  · obtain ⟨kp, hk, fr, hf, rfl⟩ := few_mem hx
    obtain ⟨_, _, l1, l2, f5⟩ := a.few d2 hk hf
    have c1 := chs_32 l1 a.sums.2.1
    have c2 := chs_32 l2 f5
    have m1 := Int.mul_nonneg c1.1 c2.1
    have m2 := Int.mul_le_mul c1.2 c2.2 c2.1 (by decide)
    refine ⟨⟨m1, by show _ * _ ≤ 1024; omega⟩, fun w hw => ?_, ?_⟩
    · have := wg_mem (k := 1) l2 w hw
      have := a.fl
      have := a.L5
      omega
    · have := wg_len (k := 1) l2
      have := a.sums
      show (wgG 1 q.f fr).length ≤ 5
      omega
theorem prd_bnd : ∀ {ws : List Int}, (∀ w ∈ ws, 1 ≤ w ∧ w ≤ 5) → 0 ≤ prdF ws ∧ prdF ws ≤ 5 ^ ws.length
  | [], _ => by simp [prdF]
  | w :: ws, h => by
    obtain ⟨h1, h2⟩ := prd_bnd fun x hx => h x (List.mem_cons_of_mem _ hx)
    obtain ⟨w1, w5⟩ := h w List.mem_cons_self
    rw [show w :: ws = [w] ++ ws from rfl, prd_app, show prdF [w] = w by show 1 * w = w; omega]
    refine ⟨Int.mul_nonneg (by omega) h1, ?_⟩
    rw [List.length_append, Int.pow_add]
    exact Int.mul_le_mul w5 h2 h1 (Int.pow_nonneg (by decide))
section
variable {P : Program} {w : World} {K : PySem.W.Frag} {mg : Str → Option Value} {base : Heap} (T : Fns K mg)
theorem ok__law_cell_at : FnOk P w K mg base CX0 1 T.f__law_cell_at T.d__law_cell_at ["_law_script", "_law_k"] (spCell K) := by
  refine T.F__law_cell_at.ok sc__law_cell_at (fun vs H Q E h => ?_) (fun cdv A outer s H vs Q E hr h => ?_)
  · obtain ⟨_, _, _, rfl, _⟩ := h
    rfl
  · obtain ⟨a, ns, k, rfl, hS, h0, kk⟩ := h
    refine ⟨_, (pss_cons (ps_if (pt_cmpR op_lt (pv 1) (pe_callB call_len_seq (by rfl) T.n_len boot_len (pa_cons (pv 0) pa_nil)) (nomark _)) (pss_one (ps_ret (pe_ix ix_list (pv 0) (pv 1) (fun _ _ => rfl)))) pss_nil)
      (pss_one (ps_ret pe_int))), ?_⟩
    refine ⟨_, rfl, _, rfl, a, _, rfl, .inl hS, _, _, rfl, rfl, _, rfl, ?_⟩
    refine iteD (fun h => ?_) (fun _ => kk 0)
    rw [List.length_map] at h
    have hk : k.toNat < ns.length := by omega
    refine ⟨_, rfl, _, rfl, a, _, k, .int ns[k.toNat], rfl, rfl, hS, ?_, kk _⟩
    have e : ((k.toNat : Nat) : Int) = k := by omega
    have := atI_nat (xs := ns.map V.int) (j := k.toNat) (v := .int ns[k.toNat]) (by simp [hk])
    rw [e] at this
    exact this
theorem ok_is_whole : FnOk P w K mg base CX0 1 T.f_is_whole T.d_is_whole ["thing"] sp_whole := by
  refine T.F_is_whole.ok sc_is_whole (fun vs H Q E h => ?_) (fun cdv A outer s H vs Q E hr h => ?_)
  · obtain ⟨_, rfl, _⟩ := h
    rfl
  · obtain ⟨v, rfl, ht, kk⟩ := h
    refine ⟨_, (pss_one (ps_ret (pe_and (pe_callB call_isi (by rfl) T.n_isinstance boot_isinstance (pa_cons (pv 0) (pa_cons (pe_bltn (v := .ty "int") (by rfl) T.n_int boot_int (by rfl)) pa_nil))) (pe_one (pe_not (pe_callB call_isi (by rfl) T.n_isinstance boot_isinstance (pa_cons (pv 0) (pa_cons (pe_bltn (v := .ty "bool") (by rfl) T.n_bool boot_bool (by rfl)) pa_nil)))))))), ?_⟩
    rcases ht with ⟨i, rfl⟩ | ⟨b, rfl⟩ | rfl | ⟨x, rfl⟩ | ⟨a, xs, rfl, ha⟩ | ⟨a, xs, rfl, ha⟩
    · exact ⟨_, rfl, _, "int", _, true, rfl, .int i, kit_same, true, rfl, iteT ⟨_, rfl, _, "bool", _, false, rfl, .int i, kit_int_bool, false, rfl, kk⟩⟩
    · exact ⟨_, rfl, _, "int", _, true, rfl, .bl b, kit_bool_int, true, rfl, iteT ⟨_, rfl, _, "bool", _, true, rfl, .bl b, kit_same, true, rfl, kk⟩⟩
    · exact ⟨_, rfl, _, "int", _, false, rfl, .non, kit_none_int, false, rfl, iteF kk⟩
    · exact ⟨_, rfl, _, "int", _, false, rfl, .str x, kit_str_int, false, rfl, iteF kk⟩
    · exact ⟨_, rfl, _, "int", _, false, rfl, .lst ha, kit_list_int, false, rfl, iteF kk⟩
    · exact ⟨_, rfl, _, "int", _, false, rfl, .tup ha, kit_tuple_int, false, rfl, iteF kk⟩
theorem ok_need_between : FnOk P w K mg base CX0 2 T.f_need_between T.d_need_between ["thing", "least", "greatest"] (spBetQ K) := by
  refine T.F_need_between.ok sc_need_between (fun vs H Q E h => ?_) (fun cdv A outer s H vs Q E hr h => ?_)
  · obtain ⟨_, _, _, rfl, _⟩ := h
    rfl
  · obtain ⟨i, lo, hi, rfl, h1, h2, kk⟩ := h
    refine ⟨_, (pss_one (ps_if (pw_or (pt_not (pt_val (pe_call (ok_is_whole T) (hr.mono (by decide)) (by rfl) T.m_is_whole T.F_is_whole.kp T.B_is_whole .nil pass0 (pa_cons (pv 0) pa_nil)))) (pw_or (pt_cmpR op_lt (pv 0) (pv 1) (nomark _)) (pw_or1 (pt_cmpR op_gt (pv 0) (pv 2) (nomark _))))).pt (pss_one ps_never) pss_nil)), ?_⟩
    refine ⟨_, rfl, _, rfl, .inl ⟨_, rfl⟩, true, rfl, iteF ⟨_, rfl, _, rfl, i, lo, rfl, rfl, _, rfl, iteD (fun hl => absurd hl (by omega)) (fun _ => ?_)⟩⟩
    exact ⟨_, rfl, _, rfl, i, hi, rfl, rfl, _, rfl, iteD (fun hl => absurd hl (by omega)) (fun _ => kk)⟩
theorem ok_need_wide : FnOk P w K mg base CX0 3 T.f_need_wide T.d_need_wide ["d", "k"] (spWidQ K) := by
  refine T.F_need_wide.ok sc_need_wide (fun vs H Q E h => ?_) (fun cdv A outer s H vs Q E hr h => ?_)
  · obtain ⟨_, _, rfl, _⟩ := h
    rfl
  · obtain ⟨d, k, rfl, hW, kk⟩ := h
    refine ⟨_, (pss_cons (ps_expr (pe_call (ok_need_between T) (hr.mono (by decide)) (by rfl) T.m_need_between T.F_need_between.kp T.B_need_between .nil pass0 (pa_cons (pv 0) (pa_cons pe_int (pa_cons pe_int pa_nil)))))
      (pss_one (ps_expr (pe_call (ok_need_between T) (hr.mono (by decide)) (by rfl) T.m_need_between T.F_need_between.kp T.B_need_between .nil pass0 (pa_cons (pv 1) (pa_cons pe_int (pa_cons (pe_dgetM (pe_glob (v := .ref T.a_WIDE) (by rfl) T.m_WIDE (by rfl)) (pv 0) (fun _ _ => rfl)) pa_nil))))))), ?_⟩
    unfold Wide at hW
    refine ⟨_, rfl, d, 1, 5, rfl, by omega, by omega, ?_⟩
    obtain ⟨hi, hl, hN⟩ : ∃ hi : Int, ([(1, 6), (2, 6), (3, 6), (4, 6), (5, 3)] : List (Int × Int)).lookup (d : Int) = some hi ∧ (k : Int) ≤ hi := by
      have hd : d = 1 ∨ d = 2 ∨ d = 3 ∨ d = 4 ∨ d = 5 := by omega
      rcases hd with rfl | rfl | rfl | rfl | rfl
      · exact ⟨6, rfl, by omega⟩
      · exact ⟨6, rfl, by omega⟩
      · exact ⟨6, rfl, by omega⟩
      · exact ⟨6, rfl, by omega⟩
      · exact ⟨3, rfl, by omega⟩
    exact ⟨_, rfl, _, rfl, T.a_WIDE, _, d, hi, rfl, T.D_WIDE, rfl, hl, k, 0, hi, rfl, by omega, hN, kk⟩
theorem ok_choose : FnOk P w K mg base CX0 1 T.f_choose T.d_choose ["number", "chosen"] (spCho K) := by
  refine T.F_choose.ok sc_choose (fun vs H Q E h => ?_) (fun cdv A outer s H vs Q E hr h => ?_)
  · obtain ⟨_, _, rfl, _⟩ := h
    rfl
  · obtain ⟨n, k, rfl, h1, h2, kk⟩ := h
    refine ⟨_, (pss_cons (ps_if (pw_or (pt_cmpR op_lt (pv 1) pe_int (nomark _)) (pw_or1 (pt_cmpR op_gt (pv 1) (pv 0) (nomark _)))).pt (pss_one (ps_ret pe_int)) pss_nil)
      (pss_cons (ps_set (i := 2) sc_choose.nd rfl (by first | exact Or.inl rfl | exact Or.inr rfl) pe_int)
      (pss_cons (ps_for PassesOwn.never rfl (pi_range1 (by rfl) T.n_range (pa_cons (pv 1) pa_nil)) (pg_name (i := 3) sc_choose.nd rfl (by first | exact Or.inl rfl | exact Or.inr rfl)) (pss_one (ps_set (i := 2) sc_choose.nd rfl (by first | exact Or.inl rfl | exact Or.inr rfl) (pe_op op_fdiv (pe_op op_mul (pv 2) (pe_op op_sub (pv 0) (pv 3))) (pe_op op_add (pv 3) pe_int)))))
      (pss_one (ps_ret (pv 2)))))), ?_⟩
    refine ⟨_, rfl, _, _, rfl, rfl, _, rfl, iteD (fun h => absurd h (by omega)) (fun _ => ?_)⟩
    refine ⟨_, rfl, _, rfl, _, _, rfl, rfl, _, rfl, iteD (fun h => absurd h (by omega)) (fun _ => ?_)⟩
    refine ⟨_, rfl, (k : Int), rfl, by omega, by omega, for_range (lo := 0) (n := (k : Int).toNat) (fun i σ H2 => (∃ v3, σ = [some (.int n), some (.int k), some (.int (chF n i)), v3]) ∧ H2 = H) ⟨⟨none, rfl⟩, rfl⟩ ?_ ?_⟩
    · rintro i σ H2 hi ⟨⟨v3, rfl⟩, rfl⟩
      refine ⟨_, rfl, _, rfl, _, rfl, _, _, rfl, rfl, _, _, rfl, rfl, .inr ⟨by omega, by omega⟩, _, rfl, _, _, rfl, rfl, _, _, rfl, rfl, ⟨by omega, by omega⟩, ⟨some (.int (0 + (i : Int))), ?_⟩, rfl⟩
      rw [show chF n (i + 1) = chF n i * (n - (0 + (i : Int))) / ((0 + (i : Int)) + 1) by rw [Int.zero_add]; rfl]
      rfl
    · rintro σ H2 ⟨⟨v3, rfl⟩, rfl⟩
      rw [Int.toNat_natCast]
      exact ⟨_, rfl, kk⟩
theorem ok_with_more : FnOk P w K mg base CX0 1 T.f_with_more T.d_with_more ["numbers", "place", "more"] (spWm K) := by
  refine T.F_with_more.ok sc_with_more (fun vs H Q E h => ?_) (fun cdv A outer s H vs Q E hr h => ?_)
  · obtain ⟨_, _, _, _, rfl, _⟩ := h
    rfl
  · obtain ⟨v, t, p, m, rfl, hv, hp, hl, kk⟩ := h
    refine ⟨_, (pss_one (ps_ret (pe_op op_catA (pe_op op_catA (pe_slice sl_tupN (pv 0) po_none (po_some (pv 1))) (pe_tupN (pa_cons (pe_op op_add (pe_ix ix_tupN (pv 0) (pv 1) (fun _ _ => rfl)) (pv 2)) pa_nil))) (pe_slice sl_tupN (pv 0) (po_some (pe_op op_add (pv 1) pe_int)) po_none)))), ?_⟩
    have hlen : ∀ vs : List V, vs.length = (t.map D.i).length → vs.length = t.length := fun vs e => by rw [e, List.length_map]
    refine ⟨_, rfl, _, rfl, (p : Int), rfl, t.map .i, (t.take p).map .i, hv, ti_cut, fun vs e h => ?_, fun u1 H1 s1 hu1 => ?_⟩
    · have e := hlen vs e
      rw [HT.sIx_nat] at h
      omega
    refine ⟨_, rfl, _, rfl, t.map .i, (p : Int), .i (t.getD p 0), hv.mono s1, rfl, ?_, fun u hu => ?_⟩
    · refine ix_D (j := p) rfl ?_
      rw [List.getElem?_map, List.getElem?_eq_getElem hp]
      simp [List.getD, hp]
    rw [of_i hu]
    refine ⟨_, rfl, _, _, rfl, rfl, (by show 1 ≤ sizeLine; decide), fun q2 H2 n2 s2 h2 => ?_⟩
    have hu2 : Is H2 (.t [.i (t.getD p 0 + m)]) (.ref q2) := is_t h2 (iss_cons is_i iss_nil)
    refine ⟨_, _, hu1.mono s2, hu2, Nat.le_of_lt (small1000 (by rw [List.length_map, List.length_take]; show _ + 1 ≤ 1000; omega)), fun u3 H3 s3 hu3 => ?_⟩
    refine ⟨_, rfl, _, rfl, _, _, rfl, rfl, (p : Int) + 1, rfl, t.map .i, (t.drop (p + 1)).map .i, ((hv.mono s1).mono s2).mono s3, ?_, fun vs e h => ?_, fun u4 H4 s4 hu4 => ?_⟩
    · rw [show ((p : Int) + 1) = ((p + 1 : Nat) : Int) by omega]
      exact ti_drop (by omega)
    · have e := hlen vs e
      rw [show ((p : Int) + 1) = ((p + 1 : Nat) : Int) by omega, HT.sIx_nat] at h
      omega
    refine ⟨_, _, hu3.mono s4, hu4, Nat.le_of_lt (small1000 (by rw [List.length_append, List.length_map, List.length_map, List.length_take, List.length_drop]; show _ + 1 + _ ≤ 1000; omega)), fun u5 H5 s5 hu5 => ?_⟩
    refine kk u5 H5 ((((s1.trans s2).trans s3).trans s4).trans s5) ?_
    have e : (t.take p).map D.i ++ [D.i (t.getD p 0 + m)] ++ (t.drop (p + 1)).map D.i = (wmF t p m).map D.i := by
      unfold wmF
      rw [← set_cut hp, List.map_append, List.map_append]
      rfl
    rw [e] at hu5
    exact hu5
theorem ok__law_great : FnOk P w K mg base CX0 1 T.f__law_great T.d__law_great ["_law_cell"] (spGreat K) := by
  refine T.F__law_great.ok sc__law_great (fun vs H Q E h => ?_) (fun cdv A outer s H vs Q E hr h => ?_)
  · obtain ⟨_, rfl, _⟩ := h
    rfl
  · obtain ⟨x, rfl, kk⟩ := h
    refine ⟨_, (pss_cons (ps_if (pt_cmpR op_ge (pv 0) (pe_op op_pow pe_int pe_int) (nomark _)) (pss_one (ps_ret (pe_op op_sub (pv 0) (pe_op op_pow pe_int pe_int)))) pss_nil)
      (pss_cons (ps_if (pt_cmpR op_le (pv 0) (pe_op op_sub pe_int (pe_op op_pow pe_int pe_int)) (nomark _)) (pss_one (ps_ret (pe_op op_sub (pe_op op_sub pe_int (pv 0)) (pe_op op_pow pe_int pe_int)))) pss_nil)
      (pss_cons (ps_set (i := 1) sc__law_great.nd rfl (by first | exact Or.inl rfl | exact Or.inr rfl) (pe_op op_add (pe_op op_mod (pv 0) pe_int) pe_int))
      (pss_cons (ps_set (i := 2) sc__law_great.nd rfl (by first | exact Or.inl rfl | exact Or.inr rfl) pe_int)
      (pss_cons (ps_for PassesOwn.never rfl (pi_range1 (by rfl) T.n_range (pa_cons pe_int pa_nil)) (pg_name (i := 3) sc__law_great.nd rfl (by first | exact Or.inl rfl | exact Or.inr rfl)) (pss_cons (ps_set (i := 1) sc__law_great.nd rfl (by first | exact Or.inl rfl | exact Or.inr rfl) (pe_op op_mod (pe_op op_add (pe_op op_add (pe_op op_add (pe_op op_mul (pv 1) pe_int) (pe_op op_mul (pe_op op_mul pe_int (pv 3)) (pv 3))) (pe_op op_fdiv (pv 1) pe_int)) pe_int) pe_int))
      (pss_one (ps_set (i := 2) sc__law_great.nd rfl (by first | exact Or.inl rfl | exact Or.inr rfl) (pe_op op_add (pe_op op_mul (pv 2) pe_int) (pe_op op_mod (pe_op op_mul (pv 1) pe_int) pe_int))))))
      (pss_one (ps_ret (pv 2)))))))), ?_⟩
    have e18 : (10 : Int) ^ (18 : Int).toNat = 10 ^ 18 := rfl
    refine ⟨_, rfl, 10, 18, rfl, rfl, ⟨by decide, by decide, by decide⟩, _, _, rfl, rfl, _, rfl, iteD (fun h => ?_) (fun h => ?_)⟩
    · exact ⟨_, rfl, 10, 18, rfl, rfl, ⟨by decide, by decide, by decide⟩, _, _, rfl, rfl, kk _ (by omega)⟩
    · refine ⟨_, rfl, 10, 18, rfl, rfl, ⟨by decide, by decide, by decide⟩, _, _, rfl, rfl, _, _, rfl, rfl, _, rfl, iteD (fun h2 => ?_) (fun h2 => ?_)⟩
      · exact ⟨_, rfl, _, _, rfl, rfl, 10, 18, rfl, rfl, ⟨by decide, by decide, by decide⟩, _, _, rfl, rfl, kk _ (by omega)⟩
      · refine ⟨_, rfl, _, _, rfl, rfl, (show (0 : Int) < 2147483629 by decide), _, _, rfl, rfl, ?_⟩
        refine ⟨8, rfl, by decide, by decide, for_range (n := 8) (fun i σ H2 => (∃ (y f : Int) (v3 : Option V), σ = [some (.int x), some (.int y), some (.int f), v3] ∧ 0 ≤ y ∧ 0 ≤ f) ∧ H2 = H) ⟨⟨_, 0, none, rfl, by omega, by decide⟩, rfl⟩ ?_ ?_⟩
        · rintro i σ H2 hi ⟨⟨y, f, v3, rfl, y0, f0⟩, rfl⟩
          refine ⟨_, rfl, _, _, rfl, rfl, .inr ⟨by decide, by decide⟩, _, rfl, _, _, rfl, rfl, .inl ⟨by decide, by decide⟩, _, rfl, _, _, rfl, rfl, .inr ⟨by omega, by omega⟩, _, _, rfl, rfl, _, rfl, _, _, rfl, rfl, ⟨by decide, by decide⟩, _, _, rfl, rfl, _, _, rfl, rfl, _, _, rfl, rfl, (show (0 : Int) < 2147483647 by decide), ?_⟩
          refine ⟨_, rfl, _, _, rfl, rfl, .inr ⟨by decide, by decide⟩, _, rfl, _, _, rfl, rfl, .inr ⟨by decide, by decide⟩, _, _, rfl, rfl, (show (0 : Int) < 2147483629 by decide), _, _, rfl, rfl, ?_⟩
          exact ⟨⟨_, _, _, rfl, Int.emod_nonneg _ (by decide), Int.add_nonneg (Int.mul_nonneg f0 (by decide)) (Int.emod_nonneg _ (by decide))⟩, rfl⟩
        · rintro σ H2 ⟨⟨y, f, v3, rfl, y0, f0⟩, rfl⟩
          exact ⟨_, rfl, kk _ f0⟩
theorem ok__law_digit : FnOk P w K mg base CX0 1 T.f__law_digit T.d__law_digit ["_law_rest", "_law_m"] (spDig K) := by
  refine T.F__law_digit.ok sc__law_digit (fun vs H Q E h => ?_) (fun cdv A outer s H vs Q E hr h => ?_)
  · obtain ⟨_, _, _, rfl, _⟩ := h
    rfl
  · obtain ⟨b, m, z, rfl, hb, z0, m0, m1, kk⟩ := h
    refine ⟨_, (pss_cons (ps_set (i := 2) sc__law_digit.nd rfl (by first | exact Or.inl rfl | exact Or.inr rfl) (pe_op op_mod (pe_ix ix_list (pv 0) pe_int (fun _ _ => rfl)) (pv 1)))
      (pss_cons (ps_asg (pe_op op_fdivB (pe_ix ix_list (pv 0) pe_int (fun _ _ => rfl)) (pv 1)) (pg_sub (pv 0) pe_int set_list))
      (pss_one (ps_ret (pv 2))))), ?_⟩
    refine ⟨_, rfl, b, _, _, _, rfl, rfl, SqL.of hb, by rfl, _, rfl, _, _, rfl, rfl, m0, ?_⟩
    refine ⟨_, rfl, b, _, _, _, rfl, rfl, SqL.of hb, by rfl, _, rfl, _, _, rfl, rfl, bits60 m0 m1, _, rfl, b, _, _, 0, rfl, rfl, hb, by rfl, ?_⟩
    exact ⟨_, rfl, kk _ _ (Int.emod_nonneg _ (by omega)) (Int.emod_lt_of_pos _ m0) (Int.fdiv_nonneg z0 (by omega))⟩
theorem ok_is_row : FnOk P w K mg base CX0 2 T.f_is_row T.d_is_row ["thing"] (spIsR K) := by
  refine T.F_is_row.ok sc_is_row (fun vs H Q E h => ?_) (fun cdv A outer s H vs Q E hr h => ?_)
  · obtain ⟨_, _, rfl, _⟩ := h
    rfl
  · obtain ⟨v, t, rfl, hv, ⟨tn, tl, tt⟩, kk⟩ := h
    refine ⟨_, (pss_cons (ps_if (pt_not (pt_val (pe_callB call_isi (by rfl) T.n_isinstance boot_isinstance (pa_cons (pv 0) (pa_cons (pe_bltn (v := .ty "list") (by rfl) T.n_list boot_list (by rfl)) pa_nil))))) (pss_one (ps_ret pe_bl)) pss_nil)
      (pss_cons (ps_for PassesOwn.never rfl (pi_list (pv 0)) (pg_name (i := 1) sc_is_row.nd rfl (by first | exact Or.inl rfl | exact Or.inr rfl)) (pss_one (ps_if (pw_or (pt_not (pt_val (pe_call (ok_is_whole T) (hr.mono (by decide)) (by rfl) T.m_is_whole T.F_is_whole.kp T.B_is_whole .nil pass0 (pa_cons (pv 1) pa_nil)))) (pw_or1 (pt_cmpR op_lt (pv 1) pe_int (nomark _)))).pt (pss_one (ps_ret pe_bl)) pss_nil)))
      (pss_one (ps_ret (pe_or (pe_notL (pv 0)) (pe_one (pe_cmpR op_gt (pe_ix ix_list (pv 0) (pe_un un_neg pe_int) (fun _ _ => rfl)) pe_int (nomark _)))))))), ?_⟩
    obtain ⟨a, rfl, ha⟩ := of_rwL hv
    refine ⟨_, rfl, _, "list", _, true, rfl, .lst ha, kit_self, true, rfl, iteF ?_⟩
    refine ⟨_, rfl, a, rfl, ⟨_, SqL.of ha⟩, for_list (xs := t.map V.int) (fun i σ H2 => (∃ v1, σ = [some (.ref a), v1]) ∧ H2 = H) ⟨⟨none, rfl⟩, rfl⟩ (fun i σ H2 _ h => by rw [h.2]; exact SqL.of ha) ?_ ?_⟩
    · rintro i y σ H2 hi ⟨⟨v1, rfl⟩, rfl⟩
      rw [List.getElem?_map] at hi
      obtain ⟨x, hx, rfl⟩ := Option.map_eq_some_iff.mp hi
      have x0 : 0 ≤ x := by
        have := tn i
        rw [List.getD_eq_getElem?_getD, hx] at this
        exact this
      refine ⟨_, rfl, _, rfl, .inl ⟨_, rfl⟩, true, rfl, iteF ⟨_, rfl, _, _, rfl, rfl, _, rfl, iteD (fun h => absurd h (by omega)) (fun _ => ⟨⟨_, rfl⟩, rfl⟩)⟩⟩
    · rintro σ H2 ⟨⟨v1, rfl⟩, rfl⟩
      refine ⟨_, rfl, a, _, rfl, SqL.of ha, _, rfl, ?_⟩
      rcases tt with rfl | ⟨s, x, rfl, x0⟩
      · exact iteT kk
      · have e0 : ((s ++ [x]).map V.int).isEmpty = false := by
          cases s <;> rfl
        rw [e0]
        refine iteF ⟨_, rfl, 1, rfl, a, _, -1, .int x, rfl, rfl, SqL.of ha, ?_, _, _, rfl, rfl, ?_⟩
        · unfold atI ixN
          rw [List.length_map, List.length_append, if_neg (by decide), if_pos (by simp; omega)]
          show ((s ++ [x]).map V.int)[((-1 : Int) + ((s.length + 1 : Nat) : Int)).toNat]? = _
          rw [show ((-1 : Int) + ((s.length + 1 : Nat) : Int)).toNat = s.length by omega, List.getElem?_map, List.getElem?_append_right (Nat.le_refl _), Nat.sub_self]
          rfl
        · show Q (.bl (decide (0 < x))) H2
          rw [decide_eq_true x0]
          exact kk
theorem wt_take {t : List Int} {i : Nat} {x : Int} (h : t[i]? = some x) : ((List.range (i + 1)).map fun j : Nat => ((j : Int) + 1) * t.getD j 0) = ((List.range i).map fun j : Nat => ((j : Int) + 1) * t.getD j 0) ++ [((i : Int) + 1) * x] := by
  rw [List.range_succ, List.map_append, List.map_cons, List.map_nil, List.getD_eq_getElem?_getD, h]
  rfl
theorem wt_sum (t : List Int) : ((List.range t.length).map fun j : Nat => ((j : Int) + 1) * t.getD j 0).sum = wtF t := by
  have go : ∀ (t : List Int) (i : Int), ((List.range t.length).map fun j : Nat => ((j : Int) + i) * t.getD j 0).sum = wtG i t := fun t => by
    induction t with
    | nil => intro i; rfl
    | cons x t ih =>
      intro i
      rw [List.length_cons, List.range_succ_eq_map, List.map_cons, List.map_map, List.sum_cons]
      unfold wtG
      rw [← ih (i + 1)]
      congr 1
      · simp
      · refine congrArg List.sum (List.map_congr_left fun j _ => ?_)
        show (((j + 1 : Nat) : Int) + i) * t.getD j 0 = _
        rw [show ((j + 1 : Nat) : Int) + i = (j : Int) + (i + 1) by omega]
  exact go t 1
theorem ok_row_weight : FnOk P w K mg base CX0 1 T.f_row_weight T.d_row_weight ["row"] (spRwL K) := by
  refine T.F_row_weight.ok sc_row_weight (fun vs H Q E h => ?_) (fun cdv A outer s H vs Q E hr h => ?_)
  · obtain ⟨_, _, rfl, _⟩ := h
    rfl
  · obtain ⟨v, t, rfl, hv, tl, kk⟩ := h
    refine ⟨_, (pss_one (ps_ret (pe_callB (call_sum rfl) (by rfl) T.n_sum boot_sum (pa_cons (pe_compB (XN := ["row"]) (sc := defScope s_row_weight) (N := ["place", "number"]) (own := 2) (js := []) rfl (by decide +kernel) rfl rfl (pi_enum (by rfl) T.n_enumerate (pv 0)) (fun _ _ _ _ => (pg_tupK (K := K) rfl rfl (pgs_cons (pg_name (i := 0) (show List.Nodup (["place", "number"] : List Str) by decide +kernel) rfl (Or.inl rfl) (.inr rfl)) (pgs_cons (pg_name (i := 1) (show List.Nodup (["place", "number"] : List Str) by decide +kernel) rfl (Or.inl rfl) (.inr rfl)) pgs_nil)))) ownG_pair (fun _ _ _ _ => pifs_nil) (fun _ _ _ _ => (pe_op op_mul (pe_op op_add (pv 0) pe_int) (pv 1)))) pa_nil)))), ?_⟩
    obtain ⟨a, rfl, ha⟩ := of_rwL hv
    refine ⟨_, rfl, a, rfl, ⟨_, SqL.of ha⟩, fun acc na => ?_⟩
    refine comp_enumL (xs := t.map V.int) (own := 2) (js := []) (fun i H2 => Same H H2 ∧ H2 acc = some (.lst (((List.range i).map fun j : Nat => ((j : Int) + 1) * t.getD j 0).map V.int))) ⟨Same.new na, upd_same⟩ (fun i H2 _ h => SqL.of (h.1 _ _ ha)) ?_ ?_ mono_pair mono_yes ?_
    · rintro i y H2 p hi ⟨s2, hacc⟩ np
      rw [List.getElem?_map] at hi
      obtain ⟨x, hx, rfl⟩ := Option.map_eq_some_iff.mp hi
      have il : i < t.length := (List.getElem?_eq_some_iff.mp hx).1
      have s3 : Same H2 (upd H2 p (.tup [.int i, .int x])) := Same.new np
      refine ⟨p, _, rfl, SqT.of upd_same, rfl, _, _, rfl, _, _, rfl, rfl, ?_⟩
      refine ⟨_, rfl, _, _, rfl, rfl, _, rfl, _, _, rfl, rfl, .inl ⟨by omega, by omega⟩, acc, _, _, rfl, rfl, s3 _ _ hacc, small1000 (by rw [List.length_map, List.length_map, List.length_range]; omega), (s2.trans s3).put na, ?_⟩
      rw [upd_same, wt_take hx, List.map_append]
      rfl
    · rintro H2 ⟨s2, hacc⟩
      rw [List.length_map] at hacc
      refine ⟨acc, _, rfl, SqL.of hacc, ?_⟩
      rw [wt_sum]
      exact kk H2 s2
    · rintro σ H R R' k ⟨v1, e1, i1, i2, e2, e3, v2, e4, i3, i4, e5, e6, c, h⟩
      exact ⟨v1, e1, i1, i2, e2, e3, v2, e4, i3, i4, e5, e6, c, k _ _ h⟩
theorem ok_row_weightT : FnOk P w K mg base CX0 1 T.f_row_weight T.d_row_weight ["row"] (spRwT K) := by
  refine T.F_row_weight.ok sc_row_weight (fun vs H Q E h => ?_) (fun cdv A outer s H vs Q E hr h => ?_)
  · obtain ⟨_, _, rfl, _⟩ := h
    rfl
  · obtain ⟨v, t, rfl, hv, tl, kk⟩ := h
    refine ⟨_, (pss_one (ps_ret (pe_callB (call_sum rfl) (by rfl) T.n_sum boot_sum (pa_cons (pe_compB (XN := ["row"]) (sc := defScope s_row_weight) (N := ["place", "number"]) (own := 2) (js := []) rfl (by decide +kernel) rfl rfl (pi_enumT (by rfl) T.n_enumerate (pv 0)) (fun _ _ _ _ => (pg_tupK (K := K) rfl rfl (pgs_cons (pg_name (i := 0) (show List.Nodup (["place", "number"] : List Str) by decide +kernel) rfl (Or.inl rfl) (.inr rfl)) (pgs_cons (pg_name (i := 1) (show List.Nodup (["place", "number"] : List Str) by decide +kernel) rfl (Or.inl rfl) (.inr rfl)) pgs_nil)))) ownG_pair (fun _ _ _ _ => pifs_nil) (fun _ _ _ _ => (pe_op op_mul (pe_op op_add (pv 0) pe_int) (pv 1)))) pa_nil)))), ?_⟩
    obtain ⟨a, rfl, ha⟩ := of_tI hv
    refine ⟨_, rfl, a, rfl, ⟨_, SqT.of ha⟩, fun acc na => ?_⟩
    refine comp_enumT (xs := t.map V.int) (own := 2) (js := []) (fun i H2 => Same H H2 ∧ H2 acc = some (.lst (((List.range i).map fun j : Nat => ((j : Int) + 1) * t.getD j 0).map V.int))) ⟨Same.new na, upd_same⟩ (fun i H2 _ h => SqT.of (h.1 _ _ ha)) ?_ ?_ mono_pair mono_yes ?_
    · rintro i y H2 p hi ⟨s2, hacc⟩ np
      rw [List.getElem?_map] at hi
      obtain ⟨x, hx, rfl⟩ := Option.map_eq_some_iff.mp hi
      have il : i < t.length := (List.getElem?_eq_some_iff.mp hx).1
      have s3 : Same H2 (upd H2 p (.tup [.int i, .int x])) := Same.new np
      refine ⟨p, _, rfl, SqT.of upd_same, rfl, _, _, rfl, _, _, rfl, rfl, ?_⟩
      refine ⟨_, rfl, _, _, rfl, rfl, _, rfl, _, _, rfl, rfl, .inl ⟨by omega, by omega⟩, acc, _, _, rfl, rfl, s3 _ _ hacc, small1000 (by rw [List.length_map, List.length_map, List.length_range]; omega), (s2.trans s3).put na, ?_⟩
      rw [upd_same, wt_take hx, List.map_append]
      rfl
    · rintro H2 ⟨s2, hacc⟩
      rw [List.length_map] at hacc
      refine ⟨acc, _, rfl, SqL.of hacc, ?_⟩
      rw [wt_sum]
      exact kk H2 s2
    · rintro σ H R R' k ⟨v1, e1, i1, i2, e2, e3, v2, e4, i3, i4, e5, e6, c, h⟩
      exact ⟨v1, e1, i1, i2, e2, e3, v2, e4, i3, i4, e5, e6, c, k _ _ h⟩
theorem ok_need_rows : FnOk P w K mg base CX0 3 T.f_need_rows T.d_need_rows ["d", "held", "free"] (spNeR K) := by
  refine T.F_need_rows.ok sc_need_rows (fun vs H Q E h => ?_) (fun cdv A outer s H vs Q E hr h => ?_)
  · obtain ⟨_, _, _, _, _, rfl, _⟩ := h
    rfl
  · obtain ⟨d, v1, v2, a, b, rfl, h1, h2, r1, r2, e, kk⟩ := h
    refine ⟨_, (pss_cons (ps_if (pw_or (pt_not (pt_val (pe_call (ok_is_row T) (hr.mono (by decide)) (by rfl) T.m_is_row T.F_is_row.kp T.B_is_row .nil pass0 (pa_cons (pv 1) pa_nil)))) (pw_or1 (pt_not (pt_val (pe_call (ok_is_row T) (hr.mono (by decide)) (by rfl) T.m_is_row T.F_is_row.kp T.B_is_row .nil pass0 (pa_cons (pv 2) pa_nil)))))).pt (pss_one ps_never) pss_nil)
      (pss_one (ps_if (pt_cmpR op_ne (pe_op op_add (pe_call (ok_row_weight T) (hr.mono (by decide)) (by rfl) T.m_row_weight T.F_row_weight.kp T.B_row_weight .nil pass0 (pa_cons (pv 1) pa_nil)) (pe_call (ok_row_weight T) (hr.mono (by decide)) (by rfl) T.m_row_weight T.F_row_weight.kp T.B_row_weight .nil pass0 (pa_cons (pv 2) pa_nil))) (pv 0) (nomark _)) (pss_one ps_never) pss_nil))), ?_⟩
    refine ⟨_, rfl, v1, a, rfl, h1, r1, true, rfl, iteF ⟨_, rfl, v2, b, rfl, h2, r2, true, rfl, iteF ?_⟩⟩
    refine ⟨_, rfl, v1, a, rfl, h1, r1.2.1, fun H1 s1 => ⟨_, rfl, v2, b, rfl, h2.mono s1, r2.2.1, fun H2 s2 => ?_⟩⟩
    exact ⟨_, _, rfl, rfl, _, rfl, rfl, _, rfl, iteNE (fun hz => absurd e hz) fun _ => kk H2 (s1.trans s2)⟩
theorem ok_product_of : FnOk P w K mg base CX0 1 T.f_product_of T.d_product_of ["numbers"] (spPrd K) := by
  refine T.F_product_of.ok sc_product_of (fun vs H Q E h => ?_) (fun cdv A outer s H vs Q E hr h => ?_)
  · obtain ⟨_, _, rfl, _⟩ := h
    rfl
  · obtain ⟨v, ws, rfl, hv, hw, kk⟩ := h
    refine ⟨_, (pss_cons (ps_set (i := 1) sc_product_of.nd rfl (by first | exact Or.inl rfl | exact Or.inr rfl) pe_int)
      (pss_cons (ps_for PassesOwn.never rfl (pi_list (pv 0)) (pg_name (i := 2) sc_product_of.nd rfl (by first | exact Or.inl rfl | exact Or.inr rfl)) (pss_one (ps_aug (i := 1) sc_product_of.nd rfl (by first | exact Or.inl rfl | exact Or.inr rfl) (pv 2) ip_mult)))
      (pss_one (ps_ret (pv 1))))), ?_⟩
    obtain ⟨a, rfl, ha⟩ := of_rwL hv
    refine ⟨_, rfl, a, rfl, ⟨_, SqL.of ha⟩, for_list (xs := ws.map V.int) (fun i σ H2 => (∃ v2, σ = [some (.ref a), some (.int (prdF (ws.take i))), v2]) ∧ H2 = H) ⟨⟨none, rfl⟩, rfl⟩ (fun i σ H2 _ h => by rw [h.2]; exact SqL.of ha) ?_ ?_⟩
    · rintro i y σ H2 hi ⟨⟨v2, rfl⟩, rfl⟩
      rw [List.getElem?_map] at hi
      obtain ⟨x, hx, rfl⟩ := Option.map_eq_some_iff.mp hi
      obtain ⟨x1, x5⟩ := hw x (List.mem_of_getElem? hx)
      refine ⟨_, rfl, _, rfl, _, _, rfl, rfl, .inr ⟨by omega, by omega⟩, ⟨some (.int x), ?_⟩, rfl⟩
      have e : prdF (ws.take (i + 1)) = prdF (ws.take i) * x := by
        rw [List.take_add_one, hx]
        unfold prdF
        rw [List.foldl_append]
        rfl
      rw [e]
      rfl
    · rintro σ H2 ⟨⟨v2, rfl⟩, rfl⟩
      rw [List.length_map, List.take_length]
      exact ⟨_, rfl, kk⟩
theorem ok_filled_up : FnOk P w K mg base CX0 1 T.f_filled_up T.d_filled_up ["row", "length"] (spFil K) := by
  refine T.F_filled_up.ok sc_filled_up (fun vs H Q E h => ?_) (fun cdv A outer s H vs Q E hr h => ?_)
  · obtain ⟨_, _, _, rfl, _⟩ := h
    rfl
  · obtain ⟨v, t, n, rfl, hv, tn, n5, kk⟩ := h
    refine ⟨_, (pss_one (ps_ret (pe_callTy call_tuple_ofN (by rfl) T.n_tuple boot_tuple (pa_cons (pe_op op_catN (pv 0) (pe_op op_repN (pe_lstN (pa_cons pe_int pa_nil)) (pe_op op_sub (pv 1) (pe_callB call_len_seq (by rfl) T.n_len boot_len (pa_cons (pv 0) pa_nil))))) pa_nil)))), ?_⟩
    obtain ⟨a, rfl, ha⟩ := of_rwL hv
    refine ⟨_, rfl, (by show 1 ≤ sizeLine; decide), fun l1 H1 n1 s1 h1 => ?_⟩
    refine ⟨_, rfl, _, rfl, a, _, rfl, .inl (SqL.of (s1 _ _ ha)), _, _, rfl, rfl, .i 0, _, is_l h1 (iss_cons is_i iss_nil), rfl, ?_, ?_, ?_, fun l2 H2 n2 s2 h2 => ?_⟩
    · rw [List.length_map]; omega
    · rw [List.length_map]; omega
    · exact Nat.le_of_lt (small1000 (by rw [List.length_map]; omega))
    refine ⟨_, _, hv.mono (s1.trans s2), h2, Nat.le_of_lt (small1000 (by rw [List.length_map, List.length_replicate, List.length_map]; omega)), fun l3 H3 n3 s3 h3 => ?_⟩
    refine ⟨_, _, rfl, h3, fun l4 H4 n4 s4 h4 => kk _ H4 (((s1.trans s2).trans s3).trans s4) ?_⟩
    have e : t.map D.i ++ List.replicate (((n : Int)) - (((t.map V.int).length : Nat) : Int)).toNat (D.i 0) = (padT n t).map D.i := by
      unfold padT
      rw [List.length_map, List.map_append, List.map_replicate, show ((n : Int) - (t.length : Int)).toNat = n - t.length by omega]
    rw [e] at h4
    exact h4
theorem ok_rows_within : FnOk P w K mg base CX0 1 T.f_rows_within T.d_rows_within ["row"] (spRwn K) := by
  refine T.F_rows_within.ok sc_rows_within (fun vs H Q E h => ?_) (fun cdv A outer s H vs Q E hr h => ?_)
  · obtain ⟨_, _, rfl, _⟩ := h
    rfl
  · obtain ⟨v, t, rfl, hv, tn, ts, tl, kk⟩ := h
    refine ⟨_, (pss_cons (ps_set (i := 1) sc_rows_within.nd rfl (by first | exact Or.inl rfl | exact Or.inr rfl) (pe_lstN (pa_cons (pe_tupN pa_nil) pa_nil)))
      (pss_cons (ps_for PassesOwn.never rfl (pi_tup (pv 0)) (pg_name (i := 2) sc_rows_within.nd rfl (by first | exact Or.inl rfl | exact Or.inr rfl)) (pss_cons (ps_set (i := 3) sc_rows_within.nd rfl (by first | exact Or.inl rfl | exact Or.inr rfl) (pe_lstN pa_nil))
      (pss_cons (ps_for PassesOwn.never rfl (pi_list (pv 1)) (pg_name (i := 4) sc_rows_within.nd rfl (by first | exact Or.inl rfl | exact Or.inr rfl)) (pss_one (ps_expr (pe_bm PySem.F.plainAttrs_list PySem.F.slot_list_extend PySem.F.type_list_extend mt_extend (pv 3) (pa_cons (pe_compB (XN := ["row", "found", "number", "longer", "begun"]) (sc := defScope s_rows_within) (N := ["here", "begun"]) (own := 1) (js := [4]) rfl (by decide +kernel) rfl rfl (pi_range1 (by rfl) T.n_range (pa_cons (pe_op op_add (pv 2) pe_int) pa_nil)) (fun _ _ _ _ => (pg_name (i := 0) (show List.Nodup (["here", "begun"] : List Str) by decide +kernel) rfl (Or.inl rfl) (.inr rfl))) (ownG_name (by decide)) (fun _ _ _ _ => pifs_nil) (fun _ _ _ _ => (pe_op op_catA (pv 1) (pe_tupN (pa_cons (pv 0) pa_nil))))) pa_nil)))))
      (pss_one (ps_set (i := 1) sc_rows_within.nd rfl (by first | exact Or.inl rfl | exact Or.inr rfl) (pv 3))))))
      (pss_one (ps_ret (pv 1))))), ?_⟩
    obtain ⟨a, rfl, ha⟩ := of_tI hv
    refine ⟨Nat.zero_le _, fun e0 H1 ne0 s1 he0 => ⟨(by show 1 ≤ sizeLine; decide), fun f0 H2 nf0 s2 hf0 => ?_⟩⟩
    have s02 := s1.trans s2
    refine ⟨_, rfl, a, rfl, ⟨_, SqT.of (s02 _ _ ha)⟩, for_tup (xs := t.map V.int) (fun i σ H3 => (∃ fo v2 v3 v4, σ = [some (.ref a), some (.ref fo), v2, v3, v4] ∧ H fo = none ∧ Is H3 (.l ((rwF (t.take i)).map tI)) (.ref fo)) ∧ Same H H3) ⟨⟨f0, none, none, none, rfl, s1.free nf0, is_l hf0 (iss_cons (is_tI (xs := []) (s2 _ _ he0)) iss_nil)⟩, s02⟩ (fun i σ H3 _ h => SqT.of (h.2 _ _ ha)) ?_ ?_⟩
    · rintro i y σ H3 hi ⟨⟨fo, v2, v3, v4, rfl, nfo, hfo⟩, s3⟩
      rw [List.getElem?_map] at hi
      obtain ⟨x, hx, rfl⟩ := Option.map_eq_some_iff.mp hi
      have il : i < t.length := (List.getElem?_eq_some_iff.mp hx).1
      have x0 : 0 ≤ x := by
        have := tn i
        rw [List.getD_eq_getElem?_getD, hx] at this
        exact this
      have nx : rwF (t.take (i + 1)) = rwS (rwF (t.take i)) x := by
        rw [List.take_add_one, hx]
        unfold rwF
        rw [List.foldl_append]
        rfl
      have big : (rwS (rwF (t.take i)) x).length ≤ 32 := by rw [← nx]; exact rw_few tn ts (i + 1)
      have hFl : ∀ b ∈ rwF (t.take i), b.length ≤ 5 := fun b hb => by
        have := (rw_mem (nn_take tn i) hb).len
        rw [List.length_take] at this
        omega
      rw [nx]
      generalize rwF (t.take i) = F at hfo big hFl
      obtain ⟨_, fvs, e, hfo3, hfi⟩ := of_l hfo
      cases e
      have flen : fvs.length = F.length := by rw [hfi.length, List.length_map]
      refine ⟨Nat.zero_le _, fun lo H4 nlo s4 hlo => ?_⟩
      have nloH : H lo = none := s3.free nlo
      have fl : fo ≠ lo := by rintro rfl; rw [hfo3] at nlo; cases nlo
      have part : ∀ j, (rwS (F.take j) x).length ≤ 32 := fun j => by
        rw [rwS_len] at big ⊢
        refine Nat.le_trans (Nat.mul_le_mul_right _ ?_) big
        rw [List.length_take]
        omega
      refine ⟨_, rfl, fo, rfl, ⟨_, SqL.of (s4 _ _ hfo3)⟩, for_list (xs := fvs) (fun j σ H5 => (∃ v4, σ = [some (.ref a), some (.ref fo), some (.int x), some (.ref lo), v4]) ∧ Same H H5 ∧ H5 fo = some (.lst fvs) ∧ TupS H4 H5 ∧ ∃ lvs, H5 lo = some (.lst lvs) ∧ Iss H5 ((rwS (F.take j) x).map tI) lvs) ⟨⟨_, rfl⟩, s3.trans s4, s4 _ _ hfo3, TupS.of_same (Same.refl _), [], hlo, iss_nil⟩ (fun j σ H5 _ h => SqL.of h.2.2.1) ?_ ?_⟩
      · rintro j b σ H5 hj ⟨⟨v4, rfl⟩, s5, hfo5, t5, lvs, hlo5, hl5⟩
        obtain ⟨dd, hdd, hb⟩ := hfi.of_get hj
        rw [List.getElem?_map] at hdd
        obtain ⟨bb, hbb, rfl⟩ := Option.map_eq_some_iff.mp hdd
        have hb5 : Is H5 (tI bb) b := ts_ti t5 (hb.mono s4)
        have nx2 : rwS (F.take (j + 1)) x = rwS (F.take j) x ++ (List.range (x + 1).toNat).map fun h : Nat => bb ++ [(h : Int)] := by
          unfold rwS
          rw [List.take_add_one, hbb, List.flatMap_append]
          simp
        have pj := part (j + 1)
        rw [nx2] at pj ⊢
        rw [List.length_append, List.length_map, List.length_range] at pj
        have ll : lvs.length = (rwS (F.take j) x).length := by rw [hl5.length, List.length_map]
        generalize rwS (F.take j) x = R at hl5 pj ll
        refine ⟨_, rfl, .inl ⟨rfl, _, SqL.of hlo5⟩, _, rfl, _, _, rfl, rfl, _, rfl, by omega, by omega, fun acc na => ?_⟩
        have naH : H acc = none := s5.free na
        refine comp_range (lo := 0) (n := (x + 1).toNat) (own := 1) (js := [4]) (fun m H6 => Same H5 H6 ∧ ∃ zs, H6 acc = some (.lst zs) ∧ Iss H6 (((List.range m).map fun h : Nat => bb ++ [(h : Int)]).map tI) zs) ⟨Same.new na, [], upd_same, iss_nil⟩ ?_ ?_ mono_name mono_yes ?_
        · rintro m H6 hm ⟨s6, zs, hacc, hz⟩
          rw [Int.zero_add]
          refine ⟨_, rfl, _, rfl, (by show 1 ≤ sizeLine; decide), fun q H7 nq s7 hq => ?_⟩
          have s57 := s6.trans s7
          refine ⟨bb.map .i, [.i (m : Int)], hb5.mono s57, is_t hq (iss_cons is_i iss_nil), Nat.le_of_lt (small1000 (by have := hFl bb (List.mem_of_getElem? hbb); rw [List.length_map]; show _ + 1 ≤ 1000; omega)), fun u H8 s8 hu => ?_⟩
          have hacc8 := s8 _ _ (s7 _ _ hacc)
          have zl : zs.length = m := by rw [hz.length, List.length_map, List.length_map, List.length_range]
          refine ⟨acc, zs, _, rfl, rfl, hacc8, small1000 (by omega), (s57.trans s8).put na, _, upd_same, ?_⟩
          have tu : TupS H8 (upd H8 acc (.lst (zs ++ [u]))) := TupS.upd hacc8
          rw [List.range_succ, List.map_append, List.map_append]
          refine (ts_tis tu ((hz.mono s7).mono s8)).append (iss_cons (ts_ti tu ?_) iss_nil)
          show Is H8 (.t ((bb ++ [(m : Int)]).map .i)) u
          rw [List.map_append]
          exact hu
        · rintro H6 ⟨s6, zs, hacc, hz⟩
          have zl : zs.length = (x + 1).toNat := by rw [hz.length, List.length_map, List.length_map, List.length_range]
          have hlo6 := s6 _ _ hlo5
          refine ⟨lo, acc, lvs, zs, rfl, rfl, hlo6, hacc, Nat.le_of_lt (small1000 (by omega)), ⟨_, rfl⟩, (s5.trans s6).put nloH, by rw [upd_ne fl]; exact s6 _ _ hfo5, (t5.trans (TupS.of_same s6)).trans (TupS.upd hlo6), _, upd_same, ?_⟩
          have tu : TupS H6 (upd H6 lo (.lst (lvs ++ zs))) := TupS.upd hlo6
          rw [List.map_append]
          exact (ts_tis tu (hl5.mono s6)).append (ts_tis tu hz)
        · rintro σ H R R' k ⟨v1, e1, v2, e2, e3, h⟩
          refine ⟨v1, e1, v2, e2, e3, fun q H7 nq s7 hq => ?_⟩
          obtain ⟨xs, ys, a1, a2, a3, a4⟩ := h q H7 nq s7 hq
          exact ⟨xs, ys, a1, a2, a3, fun u H8 s8 hu => k _ _ (a4 u H8 s8 hu)⟩
      · rintro σ H5 ⟨⟨v4, rfl⟩, s5, hfo5, t5, lvs, hlo5, hl5⟩
        rw [flen, List.take_length] at hl5
        exact ⟨_, rfl, ⟨lo, _, _, _, rfl, nloH, is_l hlo5 hl5⟩, s5⟩
    · rintro σ H3 ⟨⟨fo, v2, v3, v4, rfl, nfo, hfo⟩, s3⟩
      rw [List.length_map, List.take_length] at hfo
      exact ⟨_, rfl, kk fo H3 s3 nfo hfo⟩
theorem at_tI {t : List Int} {p : Nat} (h : p < t.length) : atI (t.map D.i) (p : Int) = some (.i (t.getD p 0)) := by
  refine ix_D (j := p) rfl ?_
  rw [List.getElem?_map, List.getElem?_eq_getElem h, List.getD_eq_getElem?_getD, List.getElem?_eq_getElem h]
  rfl
theorem ok_rows_beyond : ∀ n : Nat, FnOk P w K mg base CX0 (n + 2) T.f_rows_beyond T.d_rows_beyond ["row", "weight", "first"] (spRby n K)
  | 0 => ⟨fun vs H Q E h => (by obtain ⟨_, _, _, _, _, _, _, _, h, _⟩ := h; omega), fun A outer s H args us vs Q E _ _ _ _ h => (by obtain ⟨_, _, _, _, _, _, _, _, h, _⟩ := h; omega)⟩
  | n + 1 => by
    have ih := ok_rows_beyond n
    refine T.F_rows_beyond.ok sc_rows_beyond (fun vs H Q E h => ?_) (fun cdv A outer s H vs Q E hr h => ?_)
    · obtain ⟨_, _, _, _, rfl, _⟩ := h
      rfl
    · obtain ⟨v, t, wt, fi, rfl, hv, tn, tl, hm, n8, b1, b2, b3, b4, f5, kk⟩ := h
      refine ⟨_, (pss_cons (ps_set (i := 3) sc_rows_beyond.nd rfl (by first | exact Or.inl rfl | exact Or.inr rfl) (pe_op op_sub (pv 1) (pe_call (ok_row_weightT T) (hr.mono (by omega)) (by rfl) T.m_row_weight T.F_row_weight.kp T.B_row_weight .nil pass0 (pa_cons (pv 0) pa_nil))))
      (pss_cons (ps_if (pt_cmpR op_eq (pv 3) pe_int (nomark _)) (pss_one (ps_ret (pe_lstN (pa_cons (pv 0) pa_nil)))) pss_nil)
      (pss_cons (ps_set (i := 4) sc_rows_beyond.nd rfl (by first | exact Or.inl rfl | exact Or.inr rfl) (pe_lstN pa_nil))
      (pss_cons (ps_for PassesOwn.never rfl (pi_range2 (by rfl) T.n_range (pa_cons (pv 2) (pa_cons (pe_callB (call_min2 rfl) (by rfl) T.n_min boot_min (pa_cons (pe_callB call_lenN (by rfl) T.n_len boot_len (pa_cons (pv 0) pa_nil)) (pa_cons (pv 3) pa_nil))) pa_nil))) (pg_name (i := 5) sc_rows_beyond.nd rfl (by first | exact Or.inl rfl | exact Or.inr rfl)) (pss_one (ps_expr (pe_bm PySem.F.plainAttrs_list PySem.F.slot_list_extend PySem.F.type_list_extend mt_extend (pv 4) (pa_cons (pe_call ih hr (by rfl) T.m_rows_beyond T.F_rows_beyond.kp T.B_rows_beyond .nil pass0 (pa_cons (pe_call (ok_with_more T) (hr.mono (by omega)) (by rfl) T.m_with_more T.F_with_more.kp T.B_with_more .nil pass0 (pa_cons (pv 0) (pa_cons (pv 5) (pa_cons pe_int pa_nil)))) (pa_cons (pv 1) (pa_cons (pv 5) pa_nil)))) pa_nil)))))
      (pss_one (ps_ret (pv 4))))))), ?_⟩
      refine ⟨_, rfl, _, rfl, v, t, rfl, hv, tl, fun H1 s1 => ⟨_, _, rfl, rfl, ?_⟩⟩
      unfold rbF at kk
      refine ⟨_, rfl, rfl, _, rfl, iteE (fun e => ?_) (fun e => ?_)⟩
      · rw [if_pos (show wt - wtF t = 0 by omega)] at kk
        refine ⟨_, rfl, (by show 1 ≤ sizeLine; decide), fun l H2 nl s2 hl => ?_⟩
        exact kk l H2 (s1.trans s2) (s1.free nl) (is_l hl (iss_cons (hv.mono (s1.trans s2)) iss_nil))
      · have e : ¬ wt - wtF t = 0 := by omega
        rw [if_neg e] at kk
        refine ⟨Nat.zero_le _, fun fo H2 nfo s2 hfo => ?_⟩
        have s02 := s1.trans s2
        have nfoH : H fo = none := s1.free nfo
        refine ⟨_, rfl, _, rfl, _, _, rfl, .inr (hv.mono s02), _, rfl, _, _, rfl, ?_⟩
        generalize hM : (if wt - wtF t < (((t.map D.i).length : Nat) : Int) then wt - wtF t else (((t.map D.i).length : Nat) : Int)) = M
        have eM : M ≤ 5 ∧ -2000 ≤ M ∧ (M - (fi : Int)).toNat = min t.length (wt - wtF t).toNat - fi := by
          rw [List.length_map] at hM
          subst hM
          split <;> omega
        refine ⟨_, _, rfl, ⟨by omega, by omega, by omega, by omega⟩, ?_⟩
        rw [eM.2.2]
        have len5 : ∀ i, i ≤ 5 → ((List.range i).flatMap fun j => rbF n (wmF t (fi + j) 1) wt (fi + j)).length ≤ i * 5 ^ n := by
          intro i
          induction i with
          | zero => intro _; exact Nat.zero_le _
          | succ i ih2 =>
            intro hi
            rw [List.range_succ, List.flatMap_append, List.length_append, Nat.succ_mul, List.flatMap_cons, List.flatMap_nil, List.append_nil]
            have := ih2 (by omega)
            have := rb_len (n := n) (wt := wt) (row := wmF t (fi + i) 1) (first := fi + i) (by rw [wm_len]; exact tl)
            omega
        have p5 : 5 ^ n ≤ 5 ^ 7 := Nat.pow_le_pow_right (by decide) (by omega)
        refine for_range (lo := (fi : Int)) (n := min t.length (wt - wtF t).toNat - fi) (fun i σ H3 => (∃ v5, σ = [some v, some (.int wt), some (.int fi), some (.int (wt - wtF t)), some (.ref fo), v5]) ∧ Same H H3 ∧ ∃ zs, H3 fo = some (.lst zs) ∧ Iss H3 (((List.range i).flatMap fun j => rbF n (wmF t (fi + j) 1) wt (fi + j)).map tI) zs) ⟨⟨none, rfl⟩, s02, [], hfo, iss_nil⟩ ?_ ?_
        · rintro i σ H3 hi ⟨⟨v5, rfl⟩, s3, zs, hfo3, hz⟩
          have hp : fi + i < t.length := by omega
          have ew : wtF (wmF t (fi + i) 1) = wtF t + (1 + ((fi + i : Nat) : Int)) * 1 := wtG_wm hp
          rw [show (fi : Int) + (i : Int) = ((fi + i : Nat) : Int) by omega]
          refine ⟨_, rfl, .inl ⟨rfl, _, SqL.of hfo3⟩, _, rfl, _, rfl, v, t, fi + i, 1, rfl, hv.mono s3, hp, tl, fun u H4 s4 hu => ?_⟩
          refine ⟨_, rfl, _, rfl, u, wmF t (fi + i) 1, wt, fi + i, rfl, hu, nn_wm hp tn (by have := tn (fi + i); omega), by rw [wm_len]; exact tl, by rw [ew]; omega, by omega, b1, b2, by rw [ew]; omega, by rw [ew]; omega, by omega, fun rl H5 s5 nrl hrl => ?_⟩
          obtain ⟨_, rvs, e, hrl5, hri⟩ := of_l hrl
          cases e
          have s35 := s4.trans s5
          have hfo5 := s35 _ _ hfo3
          have l1 := len5 (i + 1) (by omega)
          have nx : ((List.range (i + 1)).flatMap fun j => rbF n (wmF t (fi + j) 1) wt (fi + j)) = ((List.range i).flatMap fun j => rbF n (wmF t (fi + j) 1) wt (fi + j)) ++ rbF n (wmF t (fi + i) 1) wt (fi + i) := by
            rw [List.range_succ, List.flatMap_append, List.flatMap_cons, List.flatMap_nil, List.append_nil]
          rw [nx] at l1 ⊢
          rw [List.length_append] at l1
          have l5 : (i + 1) * 5 ^ n ≤ 5 * 5 ^ 7 := Nat.mul_le_mul (by omega) p5
          have d5 : 5 * 5 ^ 7 = 390625 := by decide
          have zl := hz.length
          have rl' := hri.length
          rw [List.length_map] at zl rl'
          generalize ((List.range i).flatMap fun j => rbF n (wmF t (fi + j) 1) wt (fi + j)) = R at hz l1 zl
          generalize rbF n (wmF t (fi + i) 1) wt (fi + i) = R2 at hri l1 rl'
          refine ⟨fo, rl, zs, rvs, rfl, rfl, hfo5, hrl5, Nat.le_of_lt (lineB (by omega)), ⟨_, rfl⟩, (s3.trans s35).put nfoH, _, upd_same, ?_⟩
          have tu : TupS H5 (upd H5 fo (.lst (zs ++ rvs))) := TupS.upd hfo5
          rw [List.map_append]
          exact (ts_tis tu (hz.mono s35)).append (ts_tis tu hri)
        · rintro σ H3 ⟨⟨v5, rfl⟩, s3, zs, hfo3, hz⟩
          exact ⟨_, rfl, kk fo H3 s3 nfoH (is_l hfo3 hz)⟩
theorem chs_take {a b : List Int} (h : Le a b) : ∀ {i : Nat} {x y : Int}, b[i]? = some x → a[i]? = some y → chsF (b.take (i + 1)) (a.take (i + 1)) = chsF (b.take i) (a.take i) * chF x y.toNat := by
  induction a generalizing b with
  | nil => intro i x y _ hy; simp at hy
  | cons z a ih =>
    cases b with
    | nil => exact h.elim
    | cons u b =>
      intro i x y hx hy
      cases i with
      | zero =>
        have e1 : u = x := by simpa using hx
        have e2 : z = y := by simpa using hy
        subst e1 e2
        simp [chsF]
      | succ i =>
        rw [List.take_succ_cons, List.take_succ_cons, List.take_succ_cons, List.take_succ_cons]
        show chF u z.toNat * chsF (b.take (i + 1)) (a.take (i + 1)) = chF u z.toNat * chsF (b.take i) (a.take i) * _
        rw [ih h.2.2 (by simpa using hx) (by simpa using hy), Int.mul_assoc]
theorem le_at {a b : List Int} (h : Le a b) : ∀ {i : Nat} {x y : Int}, b[i]? = some x → a[i]? = some y → 0 ≤ y ∧ y ≤ x := by
  induction a generalizing b with
  | nil => intro i x y _ hy; simp at hy
  | cons z a ih =>
    cases b with
    | nil => exact h.elim
    | cons u b =>
      intro i x y hx hy
      cases i with
      | zero =>
        have e1 : u = x := by simpa using hx
        have e2 : z = y := by simpa using hy
        subst e1 e2
        exact ⟨h.1, h.2.1⟩
      | succ i => exact ih h.2.2 (by simpa using hx) (by simpa using hy)
theorem at_le_sum {b : List Int} {i : Nat} {x : Int} (h : Nn b) (hx : b[i]? = some x) : x ≤ b.sum := by
  induction b generalizing i with
  | nil => simp at hx
  | cons y b ih =>
    obtain ⟨p, q⟩ := Nn.cons.mp h
    have s0 := (sum_wt (i := 1) (by decide) q).1
    rw [List.sum_cons]
    cases i with
    | zero =>
      have e1 : y = x := by simpa using hx
      omega
    | succ i =>
      have := ih q (by simpa using hx)
      omega
theorem ok_choices : FnOk P w K mg base CX0 2 T.f_choices T.d_choices ["row", "chosen"] (spChs K) := by
  refine T.F_choices.ok sc_choices (fun vs H Q E h => ?_) (fun cdv A outer s H vs Q E hr h => ?_)
  · obtain ⟨_, _, _, _, rfl, _⟩ := h
    rfl
  · obtain ⟨v1, v2, b, a, rfl, hv1, hv2, le, bs, kk⟩ := h
    refine ⟨_, (pss_cons (ps_set (i := 2) sc_choices.nd rfl (by first | exact Or.inl rfl | exact Or.inr rfl) pe_int)
      (pss_cons (ps_for PassesOwn.never rfl (pi_zipT (by rfl) T.n_zip (pa_cons (pv 0) (pa_cons (pv 1) pa_nil))) (pg_tup rfl (pgs_cons (pg_name (i := 3) sc_choices.nd rfl (by first | exact Or.inl rfl | exact Or.inr rfl)) (pgs_cons (pg_name (i := 4) sc_choices.nd rfl (by first | exact Or.inl rfl | exact Or.inr rfl)) pgs_nil))) (pss_one (ps_aug (i := 2) sc_choices.nd rfl (by first | exact Or.inl rfl | exact Or.inr rfl) (pe_call (ok_choose T) (hr.mono (by decide)) (by rfl) T.m_choose T.F_choose.kp T.B_choose .nil pass0 (pa_cons (pv 3) (pa_cons (pv 4) pa_nil))) ip_mult)))
      (pss_one (ps_ret (pv 2))))), ?_⟩
    obtain ⟨ba, rfl, hb⟩ := of_tI hv1
    obtain ⟨aa, rfl, ha⟩ := of_tI hv2
    have ll := le.len
    refine ⟨_, rfl, _, rfl, ba, aa, rfl, ⟨_, SqT.of hb⟩, ⟨_, SqT.of ha⟩, for_zipT (xs := b.map V.int) (ys := a.map V.int) (by rw [List.length_map, List.length_map, ll]) (fun i σ H2 => (∃ v3 v4, σ = [some (.ref ba), some (.ref aa), some (.int (chsF (b.take i) (a.take i))), v3, v4]) ∧ Same H H2) ⟨⟨none, none, rfl⟩, Same.refl _⟩ (fun i σ H2 _ h => ⟨SqT.of (h.2 _ _ hb), SqT.of (h.2 _ _ ha)⟩) ?_ ?_⟩
    · rintro i x y σ H2 p hx hy ⟨⟨v3, v4, rfl⟩, s2⟩ np
      rw [List.getElem?_map] at hx hy
      obtain ⟨x, hx1, rfl⟩ := Option.map_eq_some_iff.mp hx
      obtain ⟨y, hy1, rfl⟩ := Option.map_eq_some_iff.mp hy
      have hx := hx1
      have hy := hy1
      obtain ⟨y0, yx⟩ := le_at le hx hy
      have x5 := at_le_sum (Le.nn le).2 hx
      have s3 : Same H2 (upd H2 p (.tup [.int x, .int y])) := Same.new np
      refine ⟨p, _, rfl, SqT.of upd_same, rfl, _, _, rfl, _, _, rfl, rfl, ?_⟩
      obtain ⟨c0, c1⟩ := ch_pow y0 yx (by omega)
      have c2 : (2 : Int) ^ x.toNat ≤ 2 ^ 5 := by
        have : x.toNat = 0 ∨ x.toNat = 1 ∨ x.toNat = 2 ∨ x.toNat = 3 ∨ x.toNat = 4 ∨ x.toNat = 5 := by omega
        rcases this with e | e | e | e | e | e <;> rw [e] <;> decide
      have d5 : (2 : Int) ^ 5 = 32 := by decide
      refine ⟨_, rfl, _, rfl, _, rfl, x, y.toNat, ?_, by omega, by omega, ?_⟩
      · show [V.int x, V.int y] = [V.int x, V.int ((y.toNat : Nat) : Int)]
        rw [show ((y.toNat : Nat) : Int) = y by omega]
      refine ⟨_, _, rfl, rfl, .inr ⟨by omega, by omega⟩, ⟨some (.int x), some (.int y), ?_⟩, s2.trans s3⟩
      rw [chs_take le hx hy]
      rfl
    · rintro σ H2 ⟨⟨v3, v4, rfl⟩, s2⟩
      rw [List.length_map, List.take_length, ← ll, List.take_length]
      exact ⟨_, rfl, kk H2 s2⟩
theorem wg_take : ∀ {a b : List Int}, Le a b → ∀ {k : Int} {i : Nat} {x y : Int}, a[i]? = some x → b[i]? = some y → wgG k (a.take (i + 1)) (b.take (i + 1)) = wgG k (a.take i) (b.take i) ++ List.replicate (y - x).toNat (k + i)
  | [], _, _, k, i, x, y, hx, _ => by simp at hx
  | z :: a, [], h, _, _, _, _, _, _ => h.elim
  | z :: a, u :: b, h, k, i, x, y, hx, hy => by
    cases i with
    | zero =>
      have e1 : z = x := by simpa using hx
      have e2 : u = y := by simpa using hy
      subst e1 e2
      simp [wgG]
    | succ i =>
      rw [List.take_succ_cons, List.take_succ_cons, List.take_succ_cons, List.take_succ_cons]
      show _ ++ wgG (k + 1) (a.take (i + 1)) (b.take (i + 1)) = _ ++ wgG (k + 1) (a.take i) (b.take i) ++ _
      rw [wg_take h.2.2 (by simpa using hx) (by simpa using hy), List.append_assoc, show k + 1 + (i : Int) = k + ((i + 1 : Nat) : Int) by omega]
theorem le_take : ∀ {a b : List Int} (i : Nat), Le a b → Le (a.take i) (b.take i)
  | [], [], i, _ => by rw [List.take_nil]; exact trivial
  | x :: a, y :: b, 0, _ => trivial
  | x :: a, y :: b, i + 1, h => ⟨h.1, h.2.1, le_take i h.2.2⟩
theorem ok_weights_gained : FnOk P w K mg base CX0 1 T.f_weights_gained T.d_weights_gained ["row", "fuller"] (spWgn K) := by
  refine T.F_weights_gained.ok sc_weights_gained (fun vs H Q E h => ?_) (fun cdv A outer s H vs Q E hr h => ?_)
  · obtain ⟨_, _, _, _, rfl, _⟩ := h
    rfl
  · obtain ⟨v1, v2, f, fr, rfl, hv1, hv2, le, fl5, fs5, kk⟩ := h
    refine ⟨_, (pss_cons (ps_set (i := 2) sc_weights_gained.nd rfl (by first | exact Or.inl rfl | exact Or.inr rfl) (pe_lstN pa_nil))
      (pss_cons (ps_for PassesOwn.never rfl (pi_enumT (by rfl) T.n_enumerate (pv 0)) (pg_tup rfl (pgs_cons (pg_name (i := 3) sc_weights_gained.nd rfl (by first | exact Or.inl rfl | exact Or.inr rfl)) (pgs_cons (pg_name (i := 4) sc_weights_gained.nd rfl (by first | exact Or.inl rfl | exact Or.inr rfl)) pgs_nil))) (pss_one (ps_expr (pe_bm PySem.F.plainAttrs_list PySem.F.slot_list_extend PySem.F.type_list_extend mt_extend (pv 2) (pa_cons (pe_op op_repN (pe_lstN (pa_cons (pe_op op_add (pv 3) pe_int) pa_nil)) (pe_op op_sub (pe_ix ix_tupN (pv 1) (pv 3) (fun _ _ => rfl)) (pv 4))) pa_nil)))))
      (pss_one (ps_ret (pv 2))))), ?_⟩
    obtain ⟨fa, rfl, hf⟩ := of_tI hv1
    have ll := le.len
    refine ⟨Nat.zero_le _, fun fo H1 nfo s1 hfo => ?_⟩
    refine ⟨_, rfl, fa, rfl, ⟨_, SqT.of (s1 _ _ hf)⟩, for_enumT (xs := f.map V.int) (fun i σ H2 => (∃ v3 v4, σ = [some (.ref fa), some v2, some (.ref fo), v3, v4]) ∧ Same H H2 ∧ H2 fo = some (.lst ((wgG 1 (f.take i) (fr.take i)).map V.int))) ⟨⟨none, none, rfl⟩, s1, hfo⟩ (fun i σ H2 _ h => SqT.of (h.2.1 _ _ hf)) ?_ ?_⟩
    · rintro i y σ H2 p hi ⟨⟨v3, v4, rfl⟩, s2, hfo2⟩ np
      rw [List.getElem?_map] at hi
      obtain ⟨x, hx, rfl⟩ := Option.map_eq_some_iff.mp hi
      have il : i < f.length := (List.getElem?_eq_some_iff.mp hx).1
      have s3 : Same H2 (upd H2 p (.tup [.int i, .int x])) := Same.new np
      have hy : fr[i]? = some (fr.getD i 0) := by
        rw [List.getD_eq_getElem?_getD, List.getElem?_eq_getElem (by omega)]
        rfl
      obtain ⟨x0, xy⟩ := le_at le hy hx
      have y5 := at_le_sum (Le.nn le).2 hy
      have lb : (wgG 1 (f.take i) (fr.take i)).length ≤ 1000 := by
        have l1 := wg_len (k := 1) (le_take i le)
        have l2 := (sum_wt (i := 1) (by decide) (Le.nn (le_take i le)).1).1
        have l3 : (fr.take i).sum ≤ fr.sum := by
          have e : (fr.take i).sum + (fr.drop i).sum = fr.sum := by rw [← List.sum_append, List.take_append_drop]
          have nd : Nn (fr.drop i) := fun j => by
            rw [List.getD_eq_getElem?_getD, List.getElem?_drop]
            have := (Le.nn le).2 (i + j); rwa [List.getD_eq_getElem?_getD] at this
          have := (sum_wt (i := 1) (by decide) nd).1
          omega
        omega
      refine ⟨p, _, rfl, SqT.of upd_same, rfl, _, _, rfl, _, _, rfl, rfl, ?_⟩
      have hfo3 := s3 _ _ hfo2
      have s03 := s2.trans s3
      generalize upd H2 p (.tup [.int i, .int x]) = H3 at s3 hfo3 s03
      refine ⟨_, rfl, .inl ⟨rfl, _, SqL.of hfo3⟩, _, rfl, _, _, rfl, rfl, (by show 1 ≤ sizeLine; decide), fun l1 H4 n1 s4 h1 => ?_⟩
      refine ⟨_, rfl, _, rfl, fr.map .i, (i : Int), _, (hv2.mono s03).mono s4, rfl, at_tI (by omega), fun u hu => ?_⟩
      rw [of_i hu]
      refine ⟨_, rfl, _, _, rfl, rfl, .i ((i : Int) + 1), _, is_l h1 (iss_cons is_i iss_nil), rfl, by omega, by omega, Nat.le_of_lt (small1000 (by omega)), fun l2 H5 n2 s5 h2 => ?_⟩
      rw [← List.map_replicate] at h2
      obtain ⟨_, e, hl2⟩ := of_rwL h2
      cases e
      have hfo5 := s5 _ _ (s4 _ _ hfo3)
      refine ⟨fo, l2, _, _, rfl, rfl, hfo5, hl2, Nat.le_of_lt (lineB (by rw [List.length_map, List.length_map, List.length_replicate]; omega)), ⟨_, _, rfl⟩, ((s03.trans s4).trans s5).put nfo, ?_⟩
      rw [upd_same, wg_take le hx hy, List.map_append, Int.add_comm 1 (i : Int)]
    · rintro σ H2 ⟨⟨v3, v4, rfl⟩, s2, hfo2⟩
      rw [List.length_map, List.take_length, ll, List.take_length] at hfo2
      exact ⟨_, rfl, kk fo H2 s2 nfo (is_rwL hfo2)⟩
theorem ok_with_one_held : FnOk P w K mg base CX0 2 T.f_with_one_held T.d_with_one_held ["d", "k", "held", "free"] (spOne heldF) := by
  refine T.F_with_one_held.ok sc_with_one_held (fun vs H Q E h => ?_) (fun cdv A outer s H vs Q E hr h => ?_)
  · obtain ⟨_, _, _, _, rfl, _⟩ := h
    rfl
  · obtain ⟨v1, v2, q, L, rfl, hv1, hv2, aq, d2, kk⟩ := h
    refine ⟨_, (pss_cons (ps_set (i := 4) sc_with_one_held.nd rfl (by first | exact Or.inl rfl | exact Or.inr rfl) (pe_lstN pa_nil))
      (pss_cons (ps_for PassesOwn.never rfl (pi_enumT (by rfl) T.n_enumerate (pv 3)) (pg_tup rfl (pgs_cons (pg_name (i := 5) sc_with_one_held.nd rfl (by first | exact Or.inl rfl | exact Or.inr rfl)) (pgs_cons (pg_name (i := 6) sc_with_one_held.nd rfl (by first | exact Or.inl rfl | exact Or.inr rfl)) pgs_nil))) (pss_one (ps_if (pt_cmpR op_gt (pv 6) pe_int (nomark _)) (pss_cons (ps_set (i := 7) sc_with_one_held.nd rfl (by first | exact Or.inl rfl | exact Or.inr rfl) (pe_tupN (pa_cons (pv 0) (pa_cons (pv 1) (pa_cons (pe_call (ok_with_more T) (hr.mono (by decide)) (by rfl) T.m_with_more T.F_with_more.kp T.B_with_more .nil pass0 (pa_cons (pv 2) (pa_cons (pv 5) (pa_cons pe_int pa_nil)))) (pa_cons (pe_call (ok_with_more T) (hr.mono (by decide)) (by rfl) T.m_with_more T.F_with_more.kp T.B_with_more .nil pass0 (pa_cons (pv 3) (pa_cons (pv 5) (pa_cons (pe_un un_neg pe_int) pa_nil)))) pa_nil))))))
      (pss_one (ps_expr (pe_bm PySem.F.plainAttrs_list PySem.F.slot_list_append PySem.F.type_list_append mt_append (pv 4) (pa_cons (pe_tupN (pa_cons pe_int (pa_cons (pe_lstN (pa_cons (pe_op op_add (pv 5) pe_int) pa_nil)) (pa_cons (pv 7) pa_nil)))) pa_nil))))) pss_nil)))
      (pss_one (ps_ret (pv 4))))), ?_⟩
    obtain ⟨fa, rfl, hf⟩ := of_tI hv2
    have hl := aq.hl
    have fl := aq.fl
    have L5 := aq.L5
    refine ⟨Nat.zero_le _, fun fo H1 nfo s1 hfo => ?_⟩
    refine ⟨_, rfl, fa, rfl, ⟨_, SqT.of (s1 _ _ hf)⟩, for_enumT (xs := q.f.map V.int) (fun i σ H2 => (∃ v5 v6 v7, σ = [some (.int q.d), some (.int q.k), some v1, some (.ref fa), some (.ref fo), v5, v6, v7]) ∧ Same H H2 ∧ Acc H H2 fo (((List.range i).flatMap (hel1 q)).map smD) ∧ ((List.range i).flatMap (hel1 q)).length ≤ i) ⟨⟨none, none, none, rfl⟩, s1, Acc.start hfo, Nat.le_refl _⟩ (fun i σ H2 _ h => SqT.of (h.2.1 _ _ hf)) ?_ ?_⟩
    · rintro i y σ H2 p hi ⟨⟨v5, v6, v7, rfl⟩, s2, ⟨zs, hfo2, hz⟩, pl⟩ np
      rw [List.getElem?_map] at hi
      obtain ⟨x, hx, rfl⟩ := Option.map_eq_some_iff.mp hi
      have il : i < q.f.length := (List.getElem?_eq_some_iff.mp hx).1
      have ex : q.f.getD i 0 = x := by rw [List.getD_eq_getElem?_getD, hx]; rfl
      have s3 : Same H2 (upd H2 p (.tup [.int i, .int x])) := Same.new np
      have nx : (List.range (i + 1)).flatMap (hel1 q) = (List.range i).flatMap (hel1 q) ++ hel1 q i := by
        rw [List.range_succ, List.flatMap_append, List.flatMap_cons, List.flatMap_nil, List.append_nil]
      rw [nx]
      have zl := hz.length
      rw [List.length_map] at zl
      generalize (List.range i).flatMap (hel1 q) = R at hz pl zl
      refine ⟨p, _, rfl, SqT.of upd_same, rfl, _, _, rfl, _, _, rfl, rfl, ?_⟩
      generalize upd H2 p (.tup [.int i, .int x]) = H3 at s3
      have s03 := s2.trans s3
      refine ⟨_, rfl, _, _, rfl, rfl, _, rfl, iteD (fun hg => ?_) (fun hg => ?_)⟩
      · have hg : x > 0 := hg
        unfold hel1
        rw [ex, if_pos hg]
        refine ⟨_, rfl, _, rfl, _, rfl, _, rfl, v1, q.h, i, 1, rfl, hv1.mono s03, by omega, by omega, fun u1 H4 s4 hu1 => ?_⟩
        refine ⟨_, rfl, _, rfl, 1, rfl, .ref fa, q.f, i, -1, rfl, (hv2.mono s03).mono s4, il, by omega, fun u2 H5 s5 hu2 => ⟨(by show 4 ≤ sizeLine; decide), fun t6 H6 n6 s6 h6 => ?_⟩⟩
        have hq6 : Is H6 (qD ⟨q.d, q.k, wmF q.h i 1, wmF q.f i (-1)⟩) (.ref t6) := is_t h6 (iss_cons is_i (iss_cons is_i (iss_cons ((hu1.mono s5).mono s6) (iss_cons (hu2.mono s6) iss_nil))))
        have s26 := ((s3.trans s4).trans s5).trans s6
        refine ⟨_, rfl, .inl ⟨rfl, _, SqL.of (s26 _ _ hfo2)⟩, _, rfl, _, _, rfl, rfl, (by show 1 ≤ sizeLine; decide), fun l7 H7 n7 s7 h7 => ⟨_, rfl, (by show 3 ≤ sizeLine; decide), fun t8 H8 n8 s8 h8 => ?_⟩⟩
        have s28 := (s26.trans s7).trans s8
        refine ⟨fo, zs, _, rfl, rfl, s28 _ _ hfo2, small1000 (by omega), ⟨_, _, _, rfl⟩, (s2.trans s28).put nfo, ?_, by rw [List.length_append]; show _ + 1 ≤ _; omega⟩
        rw [List.map_append]
        refine Acc.add s2 s28 hfo2 hz ?_
        refine is_t (nw_tup s28 h8) (iss_cons is_i (iss_cons (nw_row (s26.free n7) (is_rwL (t := [(i : Int) + 1]) (s8 _ _ h7))) (iss_cons (ts_q (nw_ts s28) ((hq6.mono s7).mono s8)) iss_nil)))
      · have hg : ¬ x > 0 := hg
        unfold hel1
        rw [ex, if_neg hg, List.append_nil]
        exact ⟨⟨_, _, _, rfl⟩, s03, Acc.mono s3 ⟨zs, hfo2, hz⟩, by omega⟩
    · rintro σ H2 ⟨⟨v5, v6, v7, rfl⟩, s2, hacc, _⟩
      rw [List.length_map] at hacc
      exact ⟨_, rfl, kk fo H2 s2 nfo (hacc.is nfo)⟩
theorem big24 {n : Nat} (h : n ≤ 12600000) : n < sizeLine := by rw [sizeLine_eq]; omega
theorem fl_len {q : Ask4} (hl : q.f.length ≤ 5) : ∀ (F : List (List Int)), (F.flatMap (few1 q)).length ≤ F.length * 390625
  | [] => Nat.zero_le _
  | x :: F => by
    rw [List.flatMap_cons, List.length_append, List.length_cons, Nat.succ_mul]
    have h1 := fl_len hl F
    have h2 := rb_len (n := 8) (wt := q.d - 1 - wtF x) (row := q.f) (first := 0) hl
    have : (few1 q x).length ≤ 390625 := by unfold few1; rw [List.length_map]; exact h2
    omega
theorem ok_with_one_degree_fewer : FnOk P w K mg base CX0 11 T.f_with_one_degree_fewer T.d_with_one_degree_fewer ["d", "k", "held", "free"] (spOne fewF) := by
  refine T.F_with_one_degree_fewer.ok sc_with_one_degree_fewer (fun vs H Q E h => ?_) (fun cdv A outer s H vs Q E hr h => ?_)
  · obtain ⟨_, _, _, _, rfl, _⟩ := h
    rfl
  · obtain ⟨v1, v2, q, L, rfl, hv1, hv2, aq, d2, kk⟩ := h
    refine ⟨_, (pss_cons (ps_set (i := 4) sc_with_one_degree_fewer.nd rfl (by first | exact Or.inl rfl | exact Or.inr rfl) (pe_lstN pa_nil))
      (pss_cons (ps_for PassesOwn.never rfl (pi_list (pe_call (ok_rows_within T) (hr.mono (by decide)) (by rfl) T.m_rows_within T.F_rows_within.kp T.B_rows_within .nil pass0 (pa_cons (pv 2) pa_nil))) (pg_name (i := 5) sc_with_one_degree_fewer.nd rfl (by first | exact Or.inl rfl | exact Or.inr rfl)) (pss_one (ps_for PassesOwn.never rfl (pi_list (pe_call (ok_rows_beyond T 8) (hr.mono (by decide)) (by rfl) T.m_rows_beyond T.F_rows_beyond.kp T.B_rows_beyond .nil pass0 (pa_cons (pv 3) (pa_cons (pe_op op_sub (pe_op op_sub (pv 0) pe_int) (pe_call (ok_row_weightT T) (hr.mono (by decide)) (by rfl) T.m_row_weight T.F_row_weight.kp T.B_row_weight .nil pass0 (pa_cons (pv 5) pa_nil))) (pa_cons pe_int pa_nil))))) (pg_name (i := 6) sc_with_one_degree_fewer.nd rfl (by first | exact Or.inl rfl | exact Or.inr rfl)) (pss_cons (ps_set (i := 7) sc_with_one_degree_fewer.nd rfl (by first | exact Or.inl rfl | exact Or.inr rfl) (pe_tupN (pa_cons (pe_op op_sub (pv 0) pe_int) (pa_cons (pe_op op_add (pe_op op_sub (pe_op op_sub (pe_op op_add (pv 1) (pe_callB (call_sumT rfl) (by rfl) T.n_sum boot_sum (pa_cons (pv 6) pa_nil))) (pe_callB (call_sumT rfl) (by rfl) T.n_sum boot_sum (pa_cons (pv 3) pa_nil))) (pv 0)) pe_int) (pa_cons (pv 5) (pa_cons (pv 6) pa_nil))))))
      (pss_one (ps_expr (pe_bm PySem.F.plainAttrs_list PySem.F.slot_list_append PySem.F.type_list_append mt_append (pv 4) (pa_cons (pe_tupN (pa_cons (pe_op op_mul (pe_call (ok_choices T) (hr.mono (by decide)) (by rfl) T.m_choices T.F_choices.kp T.B_choices .nil pass0 (pa_cons (pv 2) (pa_cons (pv 5) pa_nil))) (pe_call (ok_choices T) (hr.mono (by decide)) (by rfl) T.m_choices T.F_choices.kp T.B_choices .nil pass0 (pa_cons (pv 6) (pa_cons (pv 3) pa_nil)))) (pa_cons (pe_call (ok_weights_gained T) (hr.mono (by decide)) (by rfl) T.m_weights_gained T.F_weights_gained.kp T.B_weights_gained .nil pass0 (pa_cons (pv 3) (pa_cons (pv 6) pa_nil))) (pa_cons (pv 7) pa_nil)))) pa_nil))))))))
      (pss_one (ps_ret (pv 4))))), ?_⟩
    obtain ⟨fa, rfl, hf⟩ := of_tI hv2
    have hl := aq.hl
    have fl := aq.fl
    have L5 := aq.L5
    have sm := aq.sums
    have dL := aq.dL
    have wq := aq.wt
    have wh := wtG_nn (i := 1) (by decide) aq.hn
    have wf := wtG_nn (i := 1) (by decide) aq.fn
    refine ⟨Nat.zero_le _, fun fo H1 nfo s1 hfo => ?_⟩
    refine ⟨_, rfl, v1, q.h, rfl, hv1.mono s1, aq.hn, by omega, by omega, fun kl H2 s2 nkl hkl => ?_⟩
    have s02 := s1.trans s2
    obtain ⟨_, kvs, e, hkl2, hki⟩ := of_l hkl
    cases e
    have klen : kvs.length = (rwF q.h).length := by rw [hki.length, List.length_map]
    have k32 : (rwF q.h).length ≤ 32 := by have := rw_few aq.hn (by omega) q.h.length; rwa [List.take_length] at this
    have kfo : kl ≠ fo := by rintro rfl; rw [hfo] at nkl; cases nkl
    unfold fewF at kk
    refine ⟨kl, rfl, ⟨_, SqL.of hkl2⟩, for_list (xs := kvs) (fun i σ H3 => (∃ v5 v6 v7, σ = [some (.int q.d), some (.int q.k), some v1, some (.ref fa), some (.ref fo), v5, v6, v7]) ∧ Same H H3 ∧ H3 kl = some (.lst kvs) ∧ TupS H2 H3 ∧ Acc H H3 fo ((((rwF q.h).take i).flatMap (few1 q)).map smD)) ⟨⟨none, none, none, rfl⟩, s02, hkl2, TupS.of_same (Same.refl _), (Acc.start hfo).mono s2⟩ (fun i σ H3 _ h => SqL.of h.2.2.1) ?_ ?_⟩
    · rintro i y σ H3 hi ⟨⟨v5, v6, v7, rfl⟩, s3, hkl3, t3, ⟨zs, hfo3, hz⟩⟩
      obtain ⟨dd, hdd, hy⟩ := hki.of_get hi
      rw [List.getElem?_map] at hdd
      obtain ⟨kp, hkp, rfl⟩ := Option.map_eq_some_iff.mp hdd
      have il : i < (rwF q.h).length := (List.getElem?_eq_some_iff.mp hkp).1
      have kmem := List.mem_of_getElem? hkp
      have lk := rw_mem aq.hn kmem
      have wk0 := wtG_nn (i := 1) (by decide) (Le.nn lk).1
      have wk1 := lk.wt (i := 1) (by decide)
      have nx : ((rwF q.h).take (i + 1)).flatMap (few1 q) = ((rwF q.h).take i).flatMap (few1 q) ++ few1 q kp := by
        rw [List.take_add_one, hkp, List.flatMap_append]
        simp
      have bnd := fl_len (q := q) (by omega) ((rwF q.h).take (i + 1))
      rw [nx] at bnd ⊢
      rw [List.length_append, List.length_take] at bnd
      have zl := hz.length
      rw [List.length_map] at zl
      generalize ((rwF q.h).take i).flatMap (few1 q) = R at hz bnd zl
      have hy3 : Is H3 (tI kp) y := ts_ti t3 hy
      refine ⟨_, rfl, _, rfl, _, _, rfl, rfl, _, rfl, y, kp, rfl, hy3, by have := lk.len; omega, fun H4 s4 => ⟨_, _, rfl, rfl, ?_⟩⟩
      have s04 := s3.trans s4
      unfold few1 at bnd ⊢
      rw [List.length_map] at bnd
      have few : ∀ fr ∈ rbF 8 q.f (q.d - 1 - wtF kp) 0, AskOk L ⟨q.d - 1, q.k + fr.sum - q.f.sum - q.d + 1, kp, fr⟩ ∧ 6 * (q.d - 1) + fr.sum + 1 ≤ muF q ∧ Le kp q.h ∧ Le q.f fr ∧ fr.sum ≤ 5 := fun fr hfr => aq.few d2 kmem hfr
      refine ⟨.ref fa, q.f, q.d - 1 - wtF kp, 0, rfl, hv2.mono s04, aq.fn, by omega, by unfold wtF at *; omega, by decide, by unfold wtF at *; omega, by unfold wtF at *; omega, by unfold wtF at *; omega, by unfold wtF at *; omega, by decide, fun rl H5 s5 nrl hrl => ?_⟩
      obtain ⟨_, rvs, e, hrl5, hri⟩ := of_l hrl
      cases e
      have rlen : rvs.length = (rbF 8 q.f (q.d - 1 - wtF kp) 0).length := by rw [hri.length, List.length_map]
      have s35 := s4.trans s5
      have hfo5 := s35 _ _ hfo3
      have rfo : rl ≠ fo := by rintro rfl; rw [s4 _ _ hfo3] at nrl; cases nrl
      have rkl : kl ≠ rl := by rintro rfl; rw [s4 _ _ hkl3] at nrl; cases nrl
      generalize rbF 8 q.f (q.d - 1 - wtF kp) 0 = O at hri few rlen bnd
      refine ⟨rl, rfl, ⟨_, SqL.of hrl5⟩, for_list (xs := rvs) (fun j σ H6 => (∃ v6 v7, σ = [some (.int q.d), some (.int q.k), some v1, some (.ref fa), some (.ref fo), some y, v6, v7]) ∧ Same H H6 ∧ H6 kl = some (.lst kvs) ∧ H6 rl = some (.lst rvs) ∧ TupS H5 H6 ∧ Acc H H6 fo ((R ++ (O.take j).map (few2 q kp)).map smD)) ⟨⟨_, _, rfl⟩, s3.trans s35, s35 _ _ hkl3, hrl5, TupS.of_same (Same.refl _), by simpa using Acc.mono s35 ⟨zs, hfo3, hz⟩⟩ (fun j σ H6 _ h => SqL.of h.2.2.2.1) ?_ ?_⟩
      · rintro j b σ H6 hj ⟨⟨v6, v7, rfl⟩, s6, hkl6, hrl6, t6, ⟨ws, hfo6, hw⟩⟩
        obtain ⟨dd, hdd, hb⟩ := hri.of_get hj
        rw [List.getElem?_map] at hdd
        obtain ⟨fr, hfr, rfl⟩ := Option.map_eq_some_iff.mp hdd
        have jl : j < O.length := (List.getElem?_eq_some_iff.mp hfr).1
        obtain ⟨f1, f2, f3, f4, f5⟩ := few fr (List.mem_of_getElem? hfr)
        have hb6 : Is H6 (tI fr) b := ts_ti t6 hb
        have hy6 : Is H6 (tI kp) y := ts_ti t6 (hy3.mono s35)
        have wl := hw.length
        rw [List.length_map, List.length_append, List.length_map, List.length_take] at wl
        have nx2 : (O.take (j + 1)).map (few2 q kp) = (O.take j).map (few2 q kp) ++ [few2 q kp fr] := by
          rw [List.take_add_one, hfr, List.map_append]
          rfl
        rw [nx2, ← List.append_assoc, List.map_append]
        obtain ⟨ba, rfl, hba⟩ := of_tI hb6
        refine ⟨_, rfl, _, _, rfl, rfl, _, rfl, _, rfl, ba, fr, rfl, SqT.of hba, _, _, rfl, rfl, _, rfl, fa, q.f, rfl, SqT.of (s6 _ _ hf), _, _, rfl, rfl, _, rfl, _, _, rfl, rfl, _, _, rfl, rfl, _, rfl, _, rfl, (by show 4 ≤ sizeLine; decide), fun t7 H7 n7 s7 h7 => ?_⟩
        have hq7 : Is H7 (qD ⟨q.d - 1, q.k + fr.sum - q.f.sum - q.d + 1, kp, fr⟩) (.ref t7) := is_t h7 (iss_cons is_i (iss_cons is_i (iss_cons (hy6.mono s7) (iss_cons (hb6.mono s7) iss_nil))))
        have s07 := s6.trans s7
        refine ⟨_, rfl, .inl ⟨rfl, _, SqL.of (s7 _ _ hfo6)⟩, _, rfl, _, rfl, v1, y, q.h, kp, rfl, hv1.mono s07, hy6.mono s7, f3, by omega, fun H8 s8 => ?_⟩
        refine ⟨_, rfl, _, rfl, .ref ba, .ref fa, fr, q.f, rfl, (hb6.mono s7).mono s8, (hv2.mono s07).mono s8, f4, f5, fun H9 s9 => ?_⟩
        have c1 := chs_32 f3 (by omega)
        have c2 := chs_32 f4 f5
        refine ⟨_, _, rfl, rfl, .inl ⟨by omega, by omega⟩, _, rfl, _, rfl, .ref fa, .ref ba, q.f, fr, rfl, ((hv2.mono s07).mono s8).mono s9, ((hb6.mono s7).mono s8).mono s9, f4, by have := f4.len; omega, f5, fun l10 H10 s10 n10 h10 => ?_⟩
        refine ⟨_, rfl, (by show 3 ≤ sizeLine; decide), fun t11 H11 n11 s11 h11 => ?_⟩
        have s610 := ((s7.trans s8).trans s9).trans s10
        have s611 := s610.trans s11
        have n10' : H6 l10 = none := ((s7.trans s8).trans s9).free n10
        refine ⟨fo, ws, _, rfl, rfl, s611 _ _ hfo6, big24 (by omega), ⟨_, _, rfl⟩, (s6.trans s611).put nfo, by rw [upd_ne kfo]; exact s611 _ _ hkl6, by rw [upd_ne rfo]; exact s611 _ _ hrl6, (t6.trans (TupS.of_same s611)).trans (TupS.upd (s611 _ _ hfo6)), ?_⟩
        refine Acc.add s6 s611 hfo6 hw ?_
        refine is_t (nw_tup s611 h11) (iss_cons is_i (iss_cons (nw_row n10' (h10.mono s11)) (iss_cons (ts_q (nw_ts s611) ((((hq7.mono s8).mono s9).mono s10).mono s11)) iss_nil)))
      · rintro σ H6 ⟨⟨v6, v7, rfl⟩, s6, hkl6, hrl6, t6, hacc⟩
        rw [rlen, List.take_length] at hacc
        exact ⟨⟨_, _, _, rfl⟩, s6, hkl6, (t3.trans (TupS.of_same s35)).trans t6, hacc⟩
    · rintro σ H3 ⟨⟨v5, v6, v7, rfl⟩, s3, hkl3, t3, hacc⟩
      rw [klen, List.take_length] at hacc
      exact ⟨_, rfl, kk fo H3 s3 nfo (hacc.is nfo)⟩
theorem sumsF_len {L : Nat} {q : Ask4} (a : AskOk L q) : (heldF q).length ≤ 5 ∧ (fewF q).length ≤ 12500000 := by
  have h5 := a.L5
  have fl := a.fl
  have k32 : (rwF q.h).length ≤ 32 := by have := rw_few a.hn a.sums.2.1 q.h.length; rwa [List.take_length] at this
  refine ⟨?_, Nat.le_trans (fl_len (by omega) _) (by omega)⟩
  unfold heldF
  refine Nat.le_trans (flat_le (m := 1) fun p _ => ?_) (by rw [List.length_range]; omega)
  unfold hel1
  split <;> simp
theorem ok_summands : FnOk P w K mg base CX0 12 T.f_summands T.d_summands ["asked"] (spSms K) := by
  refine T.F_summands.ok sc_summands (fun vs H Q E h => ?_) (fun cdv A outer s H vs Q E hr h => ?_)
  · obtain ⟨_, _, _, rfl, _⟩ := h
    rfl
  · obtain ⟨v, q, L, rfl, hv, aq, d2, kk⟩ := h
    refine ⟨_, (pss_cons (ps_set (i := 1) sc_summands.nd rfl (by first | exact Or.inl rfl | exact Or.inr rfl) (pe_ix ix_tupN (pv 0) pe_int (fun _ _ => rfl)))
      (pss_cons (ps_set (i := 2) sc_summands.nd rfl (by first | exact Or.inl rfl | exact Or.inr rfl) (pe_ix ix_tupN (pv 0) pe_int (fun _ _ => rfl)))
      (pss_cons (ps_set (i := 3) sc_summands.nd rfl (by first | exact Or.inl rfl | exact Or.inr rfl) (pe_ix ix_tupN (pv 0) pe_int (fun _ _ => rfl)))
      (pss_cons (ps_set (i := 4) sc_summands.nd rfl (by first | exact Or.inl rfl | exact Or.inr rfl) (pe_ix ix_tupN (pv 0) pe_int (fun _ _ => rfl)))
      (pss_one (ps_ret (pe_op op_cat (pe_call (ok_with_one_held T) (hr.mono (by decide)) (by rfl) T.m_with_one_held T.F_with_one_held.kp T.B_with_one_held .nil pass0 (pa_cons (pv 1) (pa_cons (pv 2) (pa_cons (pv 3) (pa_cons (pv 4) pa_nil))))) (pe_call (ok_with_one_degree_fewer T) (hr.mono (by decide)) (by rfl) T.m_with_one_degree_fewer T.F_with_one_degree_fewer.kp T.B_with_one_degree_fewer .nil pass0 (pa_cons (pv 1) (pa_cons (pv 2) (pa_cons (pv 3) (pa_cons (pv 4) pa_nil)))))))))))), ?_⟩
    refine ⟨_, rfl, _, 0, _, hv, rfl, rfl, fun u1 k1 => ?_⟩
    rw [of_i k1]
    refine ⟨_, rfl, _, 1, _, hv, rfl, rfl, fun u2 k2 => ?_⟩
    rw [of_i k2]
    refine ⟨_, rfl, _, 2, _, hv, rfl, rfl, fun u3 k3 => ?_⟩
    refine ⟨_, rfl, _, 3, _, hv, rfl, rfl, fun u4 k4 => ?_⟩
    refine ⟨_, rfl, _, rfl, _, rfl, _, rfl, u3, u4, q, L, rfl, k3, k4, aq, d2, fun l1 H1 s1 n1 h1 => ?_⟩
    refine ⟨_, rfl, _, rfl, _, rfl, _, rfl, u3, u4, q, L, rfl, k3.mono s1, k4.mono s1, aq, d2, fun l2 H2 s2 n2 h2 => ?_⟩
    obtain ⟨_, xs, e, g1, i1⟩ := of_l h1
    cases e
    obtain ⟨_, zs, e, g2, i2⟩ := of_l h2
    cases e
    have hl1 : H2 l1 = some (.lst xs) := s2 _ _ (nw_same _ _ g1)
    have hl2 : H2 l2 = some (.lst zs) := nw_same _ _ g2
    have sl := sumsF_len aq
    have xl := i1.length
    have zl := i2.length
    rw [List.length_map] at xl zl
    refine ⟨l1, l2, xs, zs, rfl, rfl, hl1, hl2, Nat.le_of_lt (big24 (by omega)), fun p np => ?_⟩
    have s3 : Same H2 (upd H2 p (.lst (xs ++ zs))) := Same.new np
    have hp : upd H2 p (.lst (xs ++ zs)) p = some (.lst (xs ++ zs)) := upd_same
    generalize upd H2 p (.lst (xs ++ zs)) = H3 at s3 hp
    have npH : H p = none := (s1.trans s2).free np
    refine kk p H3 ((s1.trans s2).trans s3) npH (is_l (by rw [nw_new npH]; exact hp) ?_)
    unfold sumsF
    rw [List.map_append]
    exact (i1.mono (nw_mono (s2.trans s3))).append ((i2.mono (nw_later s1)).mono (nw_mono s3))
theorem ok_counted : ∀ n : Nat, FnOk P w K mg base CX0 (n + 13) T.f_counted T.d_counted ["asked", "known"] (spCnt P w n)
  | 0 => ⟨fun vs H Q E h => (by obtain ⟨_, _, _, _, _, _, _, a, h, _⟩ := h; have := a.mu; omega), fun A outer s H args us vs Q E _ _ _ _ h => (by obtain ⟨_, _, _, _, _, _, _, a, h, _⟩ := h; have := a.mu; omega)⟩
  | n + 1 => by
    have ih := ok_counted n
    refine T.F_counted.ok sc_counted (fun vs H Q E h => ?_) (fun cdv A outer s H vs Q E hr h => ?_)
    · obtain ⟨_, _, _, _, _, rfl, _⟩ := h
      rfl
    · obtain ⟨v, kn, q, L, R, rfl, hv, aq, hn, hD, hK, kk⟩ := h
      refine ⟨_, (pss_cons (ps_if (pt_cmpR op_lt (pe_ix ix_tupN (pv 0) pe_int (fun _ _ => rfl)) pe_int (nomark _)) (pss_one (ps_ret pe_int)) pss_nil)
      (pss_cons (ps_if (pt_cmpR op_eq (pe_ix ix_tupN (pv 0) pe_int (fun _ _ => rfl)) pe_int (nomark _)) (pss_one (ps_ret (pe_ifExp (pt_cmpR op_eq (pe_ix ix_tupN (pv 0) pe_int (fun _ _ => rfl)) pe_int (nomark _)) pe_int pe_int))) pss_nil)
      (pss_cons (ps_if (pt_cmp (pc_mnotin (hu2_of hr) (pv 0) (pv 1)) rfl) (pss_cons (ps_set (i := 2) sc_counted.nd rfl (by first | exact Or.inl rfl | exact Or.inr rfl) pe_int)
      (pss_cons (ps_for PassesOwn.never rfl (pi_list (pe_call (ok_summands T) (hr.mono (by omega)) (by rfl) T.m_summands T.F_summands.kp T.B_summands .nil pass0 (pa_cons (pv 0) pa_nil))) (pg_tup rfl (pgs_cons (pg_name (i := 3) sc_counted.nd rfl (by first | exact Or.inl rfl | exact Or.inr rfl)) (pgs_cons (pg_name (i := 4) sc_counted.nd rfl (by first | exact Or.inl rfl | exact Or.inr rfl)) (pgs_cons (pg_name (i := 5) sc_counted.nd rfl (by first | exact Or.inl rfl | exact Or.inr rfl)) pgs_nil)))) (pss_one (ps_aug (i := 2) sc_counted.nd rfl (by first | exact Or.inl rfl | exact Or.inr rfl) (pe_op op_mul (pe_op op_mul (pv 3) (pe_call (ok_product_of T) (hr.mono (by omega)) (by rfl) T.m_product_of T.F_product_of.kp T.B_product_of .nil pass0 (pa_cons (pv 4) pa_nil))) (pe_call ih hr (by rfl) T.m_counted T.F_counted.kp T.B_counted .nil pass0 (pa_cons (pv 5) (pa_cons (pv 1) pa_nil)))) ip_add)))
      (pss_one (ps_mput (hu2_of hr) (pv 1) (pv 0) (pv 2) rfl)))) pss_nil)
      (pss_one (ps_ret (pe_mget (hu2_of hr) (pv 1) (pv 0) (fun _ _ => rfl))))))), ?_⟩
      refine ⟨_, rfl, _, 1, _, hv, rfl, rfl, fun u1 k1 => ?_⟩
      rw [of_i k1]
      refine ⟨_, _, rfl, rfl, _, rfl, iteD (fun hz => ?_) (fun hz => ?_)⟩
      · have hz : q.k < 0 := hz
        rw [cF_neg hz] at kk
        exact kk R H (But.of_same (Same.refl _)) hD hK
      have hz : ¬ q.k < 0 := hz
      refine ⟨_, rfl, _, 0, _, hv, rfl, rfl, fun u2 k2 => ?_⟩
      rw [of_i k2]
      refine ⟨rfl, _, rfl, iteE (fun h1 => ?_) (fun h1 => ?_)⟩
      · rw [cF_one hz h1] at kk
        refine ⟨_, rfl, _, 1, _, hv, rfl, rfl, fun u3 k3 => ?_⟩
        rw [of_i k3]
        refine ⟨rfl, _, rfl, iteE (fun h2 => ?_) (fun h2 => ?_)⟩
        · rw [if_pos h2] at kk
          exact kk R H (But.of_same (Same.refl _)) hD hK
        · rw [if_neg h2] at kk
          exact kk R H (But.of_same (Same.refl _)) hD hK
      have d2 : 2 ≤ q.d := by have := aq.d1; omega
      have hk := isK_q hv
      refine ⟨_, rfl, _, rfl, kn, tK R, kq q, rfl, hD, hk, _, rfl, ?_⟩
      rw [tK_val]
      by_cases hin : kq q ∈ R.map (·.1)
      · rw [if_pos hin]
        exact iteF ⟨_, rfl, _, rfl, kn, tK R, kq q, .int (cF q), rfl, hD, hk, by rw [tK_val, if_pos hin, hK.get hin], kk R H (But.of_same (Same.refl _)) hD hK⟩
      · rw [if_neg hin]
        refine iteT ?_
        refine ⟨_, rfl, v, q, L, rfl, hv, aq, d2, fun l0 H2 s2 nl0 hl0 => ?_⟩
        have hS : ∀ x ∈ sumsF q, AskOk L x.2.2 ∧ muF x.2.2 + 1 ≤ muF q ∧ (0 ≤ x.1 ∧ x.1 ≤ 1024) ∧ (∀ w ∈ x.2.1, 1 ≤ w ∧ w ≤ 5) ∧ x.2.1.length ≤ 5 := fun x hx => ⟨(aq.less d2 hx).1, (aq.less d2 hx).2, sm_words aq d2 hx⟩
        have hW := cF_sum aq hz h1
        generalize sumsF q = S at hS hW hl0
        obtain ⟨_, lvs, e, hl0', hli'⟩ := of_l hl0
        cases e
        have hl2 : H2 l0 = some (.lst lvs) := nw_same _ _ hl0'
        have hli : Iss H2 (S.map smD) lvs := hli'.mono nw_same
        have llen : lvs.length = S.length := by rw [hli.length, List.length_map]
        have hD2 := hD.mono s2
        have l0kn : l0 ≠ kn := by
          obtain ⟨_, _, xs, _, e⟩ := hD
          rintro rfl
          rw [e] at nl0; cases nl0
        refine ⟨l0, rfl, ⟨_, SqL.of hl2⟩, for_list (xs := lvs) (fun i σ H3 => (∃ v3 v4 v5, σ = [some v, some (.ref kn), some (.int (((S.take i).map fun x => x.1 * prdF x.2.1 * cF x.2.2).sum)), v3, v4, v5]) ∧ But kn H2 H3 ∧ ∃ R', DM P w H3 kn (tK R') ∧ KnQ L R') ⟨⟨none, none, none, rfl⟩, But.of_same (Same.refl _), R, hD2, hK⟩ (fun i σ H3 _ h => SqL.of (h.2.1 _ _ hl2 l0kn)) ?_ ?_⟩
        · rintro i y σ H3 hi ⟨⟨v3, v4, v5, rfl⟩, but3, R3, hD3, hK3⟩
          obtain ⟨dd, hdd, hy⟩ := hli.of_get hi
          rw [List.getElem?_map] at hdd
          obtain ⟨x, hx', rfl⟩ := Option.map_eq_some_iff.mp hdd
          obtain ⟨x1, x2, x3, x4, x5⟩ := hS x (List.mem_of_getElem? hx')
          have hx3 : Is H3 (smD x) y := hy.lts (ltsM_but hD2 but3)
          obtain ⟨t, tvs, rfl, ht, hti⟩ := of_t hx3
          obtain ⟨u1, us, rfl, hu1, hti⟩ := of_cons hti
          obtain ⟨u2, us, rfl, hu2, hti⟩ := of_cons hti
          obtain ⟨u3, us, rfl, hu3, hti⟩ := of_cons hti
          rw [of_nil hti, of_i hu1] at ht
          obtain ⟨p0, p1⟩ := prd_bnd x4
          have p2 : (5 : Int) ^ x.2.1.length ≤ 3125 := by
            have : x.2.1.length = 0 ∨ x.2.1.length = 1 ∨ x.2.1.length = 2 ∨ x.2.1.length = 3 ∨ x.2.1.length = 4 ∨ x.2.1.length = 5 := by omega
            rcases this with e | e | e | e | e | e <;> rw [e] <;> decide
          have m0 := Int.mul_nonneg x3.1 p0
          have m1 := Int.mul_le_mul x3.2 (Int.le_trans p1 p2) p0 (by decide)
          refine ⟨t, _, rfl, SqT.of ht, rfl, _, _, rfl, _, _, rfl, _, _, rfl, rfl, ?_⟩
          refine ⟨_, rfl, _, rfl, _, rfl, u2, x.2.1, rfl, hu2, x4, _, _, rfl, rfl, .inl ⟨by omega, by omega⟩, _, rfl, _, rfl, u3, kn, x.2.2, L, R3, rfl, hu3, x1, by omega, hD3, hK3, fun R4 H4 but4 hD4 hK4 => ?_⟩
          refine ⟨_, _, rfl, rfl, .inl ⟨by omega, by omega⟩, _, _, rfl, rfl, ⟨some (.int x.1), some u2, some u3, ?_⟩, but3.trans but4, R4, hD4, hK4⟩
          rw [List.take_add_one, hx', List.map_append, List.sum_append]
          simp
        · rintro σ H3 ⟨⟨v3, v4, v5, rfl⟩, but3, R3, hD3, hK3⟩
          rw [llen, List.take_length, ← hW]
          have but03 : But kn H H3 := (But.of_same s2).trans but3
          have hv3 : Is H3 (qD q) v := (hv.mono s2).lts (ltsM_but hD2 but3)
          have hl3 := hK3.len aq.L5
          refine ⟨_, rfl, _, rfl, _, rfl, kn, tK R3, kq q, rfl, hD3, isK_q hv3, by rw [tK_len, sizeLine_eq]; omega, fun H4 hD4 k4 => ?_⟩
          rw [tK_put hK3.1] at hD4
          have but4 : But kn H3 H4 := fun c o e n => by rw [k4 c n]; exact e
          have hv4 := hv3.lts (ltsM_but hD3 but4)
          obtain ⟨g1, g2⟩ := getP_set (k := kq q) (v := cF q) (R := R3)
          exact ⟨_, rfl, _, rfl, kn, _, kq q, .int (cF q), rfl, hD4, isK_q hv4, by rw [tK_val, if_pos g2, g1], kk _ H4 (but03.trans but4) hD4 (hK3.put aq (by omega))⟩
theorem pad_ok {a : List Int} {n : Nat} (h : Nn a) (hl : a.length ≤ n) : (padT n a).length = n ∧ Nn (padT n a) ∧ wtF (padT n a) = wtF a := by
  have nr : ∀ (m : Nat) {t : List Int}, Nn t → Nn (t ++ List.replicate m 0) := fun m => by
    induction m with
    | zero => intro t h; simpa using h
    | succ m ih => intro t h; rw [List.replicate_succ', ← List.append_assoc]; exact nn_snoc (ih h) (by decide)
  refine ⟨?_, nr _ h, wt_rep⟩
  unfold padT
  rw [List.length_append, List.length_replicate]
  omega
theorem ask_ok {d k : Nat} {a b : List Int} (hw : Wide d k) (ra : RowOk a) (rb : RowOk b) (e : wtF a + wtF b = d) (la : a.length ≤ d) (lb : b.length ≤ d) : AskOk d ⟨d, k, padT d a, padT d b⟩ := by
  obtain ⟨a1, a2, a3⟩ := pad_ok ra.1 la
  obtain ⟨b1, b2, b3⟩ := pad_ok rb.1 lb
  unfold Wide at hw
  exact ⟨a1, b1, a2, b2, by rw [a3, b3]; exact e, by show (1 : Int) ≤ (d : Int); omega, Int.le_refl _, by omega, by show (k : Int) ≤ 6; omega⟩
theorem ok_asked_of : FnOk P w K mg base CX0 4 T.f_asked_of T.d_asked_of ["d", "k", "held", "free"] (spAsk K) := by
  refine T.F_asked_of.ok sc_asked_of (fun vs H Q E h => ?_) (fun cdv A outer s H vs Q E hr h => ?_)
  · obtain ⟨_, _, _, _, _, _, rfl, _⟩ := h
    rfl
  · obtain ⟨d, k, v1, v2, a, b, rfl, hw, h1, h2, ra, rb, e, la, lb, kk⟩ := h
    refine ⟨_, (pss_cons (ps_expr (pe_call (ok_need_wide T) (hr.mono (by decide)) (by rfl) T.m_need_wide T.F_need_wide.kp T.B_need_wide .nil pass0 (pa_cons (pv 0) (pa_cons (pv 1) pa_nil))))
      (pss_cons (ps_expr (pe_call (ok_need_rows T) (hr.mono (by decide)) (by rfl) T.m_need_rows T.F_need_rows.kp T.B_need_rows .nil pass0 (pa_cons (pv 0) (pa_cons (pv 2) (pa_cons (pv 3) pa_nil)))))
      (pss_one (ps_ret (pe_tupN (pa_cons (pv 0) (pa_cons (pv 1) (pa_cons (pe_call (ok_filled_up T) (hr.mono (by decide)) (by rfl) T.m_filled_up T.F_filled_up.kp T.B_filled_up .nil pass0 (pa_cons (pv 2) (pa_cons (pv 0) pa_nil))) (pa_cons (pe_call (ok_filled_up T) (hr.mono (by decide)) (by rfl) T.m_filled_up T.F_filled_up.kp T.B_filled_up .nil pass0 (pa_cons (pv 3) (pa_cons (pv 0) pa_nil))) pa_nil))))))))), ?_⟩
    have d5 : d ≤ 5 := by unfold Wide at hw; omega
    refine ⟨_, rfl, _, rfl, d, k, rfl, hw, ?_⟩
    refine ⟨_, rfl, _, rfl, _, rfl, d, v1, v2, a, b, rfl, h1, h2, ra, rb, e, fun H1 s1 => ?_⟩
    refine ⟨_, rfl, _, rfl, _, rfl, _, rfl, v1, a, d, rfl, h1.mono s1, la, d5, fun u1 H2 s2 hu1 => ?_⟩
    refine ⟨_, rfl, _, rfl, v2, b, d, rfl, (h2.mono s1).mono s2, lb, d5, fun u2 H3 s3 hu2 => ?_⟩
    refine ⟨(by show 4 ≤ sizeLine; decide), fun t H4 nt s4 ht => kk _ H4 (((s1.trans s2).trans s3).trans s4) ?_⟩
    exact is_t ht (iss_cons is_i (iss_cons is_i (iss_cons ((hu1.mono s3).mono s4) (iss_cons (hu2.mono s4) iss_nil))))
theorem ok_by_ends : FnOk P w K mg base CX0 54 T.f_by_ends T.d_by_ends ["d", "k", "held", "free"] (spByE K) := by
  refine T.F_by_ends.ok sc_by_ends (fun vs H Q E h => ?_) (fun cdv A outer s H vs Q E hr h => ?_)
  · obtain ⟨_, _, _, _, _, _, rfl, _⟩ := h
    rfl
  · obtain ⟨d, k, v1, v2, a, b, rfl, hw, h1, h2, ra, rb, e, la, lb, kk⟩ := h
    refine ⟨_, (pss_one (ps_ret (pe_call (ok_counted T 40) (hr.mono (by decide)) (by rfl) T.m_counted T.F_counted.kp T.B_counted .nil pass0 (pa_cons (pe_call (ok_asked_of T) (hr.mono (by decide)) (by rfl) T.m_asked_of T.F_asked_of.kp T.B_asked_of .nil pass0 (pa_cons (pv 0) (pa_cons (pv 1) (pa_cons (pv 2) (pa_cons (pv 3) pa_nil))))) (pa_cons pe_mnew pa_nil))))), ?_⟩
    have aq := ask_ok hw ra rb e la lb
    refine ⟨_, rfl, _, rfl, _, rfl, _, rfl, d, k, v1, v2, a, b, rfl, hw, h1, h2, ra, rb, e, la, lb, fun u H1 s1 hu => ?_⟩
    intro kn H2 nkn hD k2
    have s2 : Same H1 H2 := fun b o e => by rw [k2 b (by rintro rfl; rw [nkn] at e; cases e)]; exact e
    have nknH : H kn = none := s1.free nkn
    refine ⟨u, kn, _, d, [], rfl, hu.mono s2, aq, by have := aq.mu; omega, hD, ⟨by simp, fun x hx => nomatch hx⟩, fun R' H3 but3 hD3 hK3 => kk H3 ?_⟩
    exact But.same (s1.trans s2) nknH but3
/-! the law's own -/
def spLRw (_ : PySem.W.Frag) : Sp := fun vs H Q _ => ∃ (b : Addr) (d : Nat) (z : Int), vs = [.ref b, .int d] ∧ H b = some (.lst [.int z]) ∧ 0 ≤ z ∧ 1 ≤ d ∧ d ≤ 5 ∧ ∀ t l1 l2 hh ff H', But b H H' → H t = none → H l1 = none → H l2 = none → l1 ≠ l2 → H' t = some (.tup [.ref l1, .ref l2]) → H' l1 = some (.lst (hh.map V.int)) → H' l2 = some (.lst (ff.map V.int)) → hh.length = d → ff.length = d → Nn hh → Nn ff → wtF hh + wtF ff = (d : Int) → Q (.ref t) H'
def spLTr (_ : PySem.W.Frag) : Sp := fun vs H Q _ => ∃ (v : V) (t : List Int), vs = [v] ∧ Is H (rwL t) v ∧ t.length ≤ 5 ∧ ∀ l H', Same H H' → H l = none → Is H' (rwL (trF t)) (.ref l) → Q (.ref l) H'
def spLWi (_ : PySem.W.Frag) : Sp := fun vs H Q _ => ∃ (v : V) (t : List Int), vs = [v] ∧ Is H (rwL t) v ∧ Nn t ∧ t.sum ≤ 5 ∧ t.length ≤ 5 ∧ ∀ l H', Same H H' → H l = none → Is (nw H H') (.l ((rwF t).map rwL)) (.ref l) → Q (.ref l) H'
def spLAb (_ : PySem.W.Frag) : Sp := fun vs H Q _ => ∃ (v : V) (t : List Int) (sp : Nat), vs = [v, .int sp] ∧ Is H (rwL t) v ∧ t.length ≤ 5 ∧ sp ≤ 5 ∧ ∀ l H', Same H H' → H l = none → Is (nw H H') (.l ((laF t sp).map rwL)) (.ref l) → Q (.ref l) H'
theorem vI_at {t : List Int} {j : Nat} (hj : j < t.length) : atI (t.map V.int) (j : Int) = some (.int (t.getD j 0)) := by
  refine ix_D (j := j) rfl ?_
  rw [List.getElem?_map, List.getElem?_eq_getElem hj, List.getD_eq_getElem?_getD, List.getElem?_eq_getElem hj]
  rfl
theorem vI_set {t : List Int} {j : Nat} {m : Int} : (t.map V.int).set j (.int (t.getD j 0 + m)) = (wmF t j m).map V.int := by
  unfold wmF
  rw [List.map_set]
theorem ok__law_rows : FnOk P w K mg base CX0 2 T.f__law_rows T.d__law_rows ["_law_rest", "_law_d"] (spLRw K) := by
  refine T.F__law_rows.ok sc__law_rows (fun vs H Q E h => ?_) (fun cdv A outer s H vs Q E hr h => ?_)
  · obtain ⟨_, _, _, rfl, _⟩ := h
    rfl
  · obtain ⟨b, d, z, rfl, hb, z0, d1, d5, kk⟩ := h
    refine ⟨_, (pss_cons (ps_set (i := 2) sc__law_rows.nd rfl (by first | exact Or.inl rfl | exact Or.inr rfl) (pe_op op_repN (pe_lstN (pa_cons pe_int pa_nil)) (pv 1)))
      (pss_cons (ps_set (i := 3) sc__law_rows.nd rfl (by first | exact Or.inl rfl | exact Or.inr rfl) (pe_op op_repN (pe_lstN (pa_cons pe_int pa_nil)) (pv 1)))
      (pss_cons (ps_set (i := 4) sc__law_rows.nd rfl (by first | exact Or.inl rfl | exact Or.inr rfl) (pv 1))
      (pss_cons (ps_while PassesOwn.never (pt_cmpR op_gt (pv 4) pe_int (nomark _)) (pss_cons (ps_set (i := 5) sc__law_rows.nd rfl (by first | exact Or.inl rfl | exact Or.inr rfl) (pe_op op_add pe_int (pe_call (ok__law_digit T) (hr.mono (by decide)) (by rfl) T.m__law_digit T.F__law_digit.kp T.B__law_digit .nil pass0 (pa_cons (pv 0) (pa_cons (pv 4) pa_nil)))))
      (pss_cons (ps_if (pt_cmpR op_eq (pe_call (ok__law_digit T) (hr.mono (by decide)) (by rfl) T.m__law_digit T.F__law_digit.kp T.B__law_digit .nil pass0 (pa_cons (pv 0) (pa_cons pe_int pa_nil))) pe_int (nomark _)) (pss_one (ps_asg (pe_op op_add (pe_ix ix_list (pv 2) (pe_op op_sub (pv 5) pe_int) (fun _ _ => rfl)) pe_int) (pg_sub (pv 2) (pe_op op_sub (pv 5) pe_int) set_list))) (pss_one (ps_asg (pe_op op_add (pe_ix ix_list (pv 3) (pe_op op_sub (pv 5) pe_int) (fun _ _ => rfl)) pe_int) (pg_sub (pv 3) (pe_op op_sub (pv 5) pe_int) set_list))))
      (pss_one (ps_set (i := 4) sc__law_rows.nd rfl (by first | exact Or.inl rfl | exact Or.inr rfl) (pe_op op_sub (pv 4) (pv 5)))))))
      (pss_one (ps_ret (pe_tupN (pa_cons (pv 2) (pa_cons (pv 3) pa_nil))))))))), ?_⟩
    refine ⟨(by show 1 ≤ sizeLine; decide), fun a1 H1 n1 s1 h1 => ⟨_, rfl, .i 0, d, is_l h1 (iss_cons is_i iss_nil), rfl, by omega, by omega, Nat.le_of_lt (small1000 (by omega)), fun l1 H2 nl1 s2 hl1 => ?_⟩⟩
    refine ⟨(by show 1 ≤ sizeLine; decide), fun a3 H3 n3 s3 h3 => ⟨_, rfl, .i 0, d, is_l h3 (iss_cons is_i iss_nil), rfl, by omega, by omega, Nat.le_of_lt (small1000 (by omega)), fun l2 H4 nl2 s4 hl2 => ?_⟩⟩
    rw [Int.toNat_natCast, ← List.map_replicate] at hl1 hl2
    obtain ⟨_, e, g1⟩ := of_rwL hl1
    cases e
    obtain ⟨_, e, g2⟩ := of_rwL hl2
    cases e
    have s02 := s1.trans s2
    have s04 := (s02.trans s3).trans s4
    have l12 : l1 ≠ l2 := by rintro rfl; rw [s3 _ _ g1] at nl2; cases nl2
    have g1 := s4 _ _ (s3 _ _ g1)
    have n1H : H l1 = none := s1.free nl1
    have n2H : H l2 = none := (s02.trans s3).free nl2
    have b1 : b ≠ l1 := by rintro rfl; rw [hb] at n1H; cases n1H
    have b2 : b ≠ l2 := by rintro rfl; rw [hb] at n2H; cases n2H
    have nn0 : ∀ n : Nat, Nn (List.replicate n 0) := fun n i => by
      rw [List.getD_eq_getElem?_getD, List.getElem?_replicate]
      split <;> simp
    have w0 : wtF (List.replicate d 0) = 0 := by
      have := wt_rep (n := d) (t := []) (i := 1)
      rw [List.nil_append] at this
      exact this
    refine ⟨_, rfl, ?_⟩
    refine while_by (fun σ H5 => ∃ (hh ff : List Int) (m z : Int) (v5 : Option V), σ = [some (.ref b), some (.int d), some (.ref l1), some (.ref l2), some (.int m), v5] ∧ But b H H5 ∧ H5 b = some (.lst [.int z]) ∧ 0 ≤ z ∧ H5 l1 = some (.lst (hh.map V.int)) ∧ H5 l2 = some (.lst (ff.map V.int)) ∧ hh.length = d ∧ ff.length = d ∧ Nn hh ∧ Nn ff ∧ 0 ≤ m ∧ m ≤ 5 ∧ wtF hh + wtF ff + m = (d : Int))
      (fun (σ : L2.St) _ => match σ[4]? with | some (some (V.int i)) => i.toNat | _ => 0) ⟨_, _, d, z, none, rfl, But.of_same s04, s04 _ _ hb, z0, g1, g2, by simp, by simp, nn0 d, nn0 d, by omega, by omega, by rw [w0]; omega⟩ ?_ ?_
    · rintro σ H5 ⟨hh, ff, m, z, v5, rfl, but5, hb5, z0, h1, h2, hl, fl, hn, fn, m0, m5, hw⟩
      refine ⟨_, rfl, _, _, rfl, rfl, _, rfl, iteD (fun hpos => ?_) (fun hpos => ?_)⟩
      · have hpos : m > 0 := hpos
        have md : m ≤ (d : Int) := by
          have wa := wtG_nn (i := 1) (by decide) hn
          have wb := wtG_nn (i := 1) (by decide) fn
          unfold wtF at hw
          omega
        refine ⟨_, rfl, _, rfl, b, m, z, rfl, hb5, z0, by omega, by omega, fun y z1 y0 ym z10 => ⟨_, _, rfl, rfl, ?_⟩⟩
        refine ⟨_, rfl, b, 2, z1, rfl, upd_same, z10, by decide, by decide, fun y2 z2 _ _ z20 => ?_⟩
        obtain ⟨n, rfl⟩ := Int.eq_ofNat_of_zero_le y0
        have en : (1 + (n : Int) - 1) = (n : Int) := by omega
        have wm : ∀ {t : List Int}, t.length = d → wtF (wmF t n 1) = wtF t + (1 + (n : Int)) * 1 := fun ht => wtG_wm (by omega)
        generalize hH6 : upd (upd H5 b (.lst [.int z1])) b (.lst [.int z2]) = H6
        have hb6 : H6 b = some (.lst [.int z2]) := by rw [← hH6]; exact upd_same
        have k6 : ∀ c, c ≠ b → H6 c = H5 c := fun c hc => by rw [← hH6, upd_ne hc, upd_ne hc]
        have but6 : But b H H6 := fun c o e n => by rw [k6 c n]; exact but5 c o e n
        have h16 := (k6 l1 b1.symm).trans h1
        have h26 := (k6 l2 b2.symm).trans h2
        refine ⟨rfl, _, rfl, iteE (fun _ => ?_) (fun _ => ?_)⟩
        · refine ⟨_, rfl, _, rfl, _, _, rfl, rfl, l1, _, _, _, rfl, rfl, SqL.of h16, by rw [en]; exact vI_at (by omega), _, _, rfl, rfl, _, rfl, _, rfl, _, _, rfl, rfl, l1, _, _, n, rfl, rfl, h16, by rw [en]; exact ixN_nat (by rw [List.length_map]; omega), ?_⟩
          rw [vI_set]
          refine ⟨_, rfl, _, rfl, _, _, rfl, rfl, ⟨wmF hh n 1, ff, _, z2, _, rfl, fun c o e n => ?_, by rw [upd_ne b1]; exact hb6, z20, upd_same, by rw [upd_ne l12.symm]; exact h26, by rw [wm_len]; exact hl, fl, nn_wm (by omega) hn (by have := hn n; omega), fn, by omega, by omega, by rw [wm hl]; omega⟩, ?_⟩
          · rw [upd_ne (by rintro rfl; rw [n1H] at e; cases e)]
            exact but6 c o e n
          · show (m - (1 + (n : Int))).toNat < m.toNat
            omega
        · refine ⟨_, rfl, _, rfl, _, _, rfl, rfl, l2, _, _, _, rfl, rfl, SqL.of h26, by rw [en]; exact vI_at (by omega), _, _, rfl, rfl, _, rfl, _, rfl, _, _, rfl, rfl, l2, _, _, n, rfl, rfl, h26, by rw [en]; exact ixN_nat (by rw [List.length_map]; omega), ?_⟩
          rw [vI_set]
          refine ⟨_, rfl, _, rfl, _, _, rfl, rfl, ⟨hh, wmF ff n 1, _, z2, _, rfl, fun c o e n => ?_, by rw [upd_ne b2]; exact hb6, z20, by rw [upd_ne l12]; exact h16, upd_same, hl, by rw [wm_len]; exact fl, hn, nn_wm (by omega) fn (by have := fn n; omega), by omega, by omega, by rw [wm fl]; omega⟩, ?_⟩
          · rw [upd_ne (by rintro rfl; rw [n2H] at e; cases e)]
            exact but6 c o e n
          · show (m - (1 + (n : Int))).toNat < m.toNat
            omega
      · have hpos : ¬ m > 0 := hpos
        refine ⟨_, rfl, _, rfl, (by show 2 ≤ sizeLine; decide), fun t H6 nt s6 ht => ?_⟩
        have ntH : H t = none := by
          cases e : H t with
          | none => rfl
          | some o =>
            by_cases hc : t = b
            · rw [hc, hb5] at nt; cases nt
            · rw [but5 t o e hc] at nt; cases nt
        exact kk t l1 l2 hh ff H6 (fun c o e n => s6 _ _ (but5 c o e n)) ntH n1H n2H l12 ht (s6 _ _ h1) (s6 _ _ h2) hl fl hn fn (by omega)
    · rintro σ H Q Q' k ⟨v1, e1, i1, i2, e2, e3, b, e4, h⟩
      exact ⟨v1, e1, i1, i2, e2, e3, b, e4, k _ _ h⟩
theorem ok__law_trimmed : FnOk P w K mg base CX0 1 T.f__law_trimmed T.d__law_trimmed ["_law_row"] (spLTr K) := by
  refine T.F__law_trimmed.ok sc__law_trimmed (fun vs H Q E h => ?_) (fun cdv A outer s H vs Q E hr h => ?_)
  · obtain ⟨_, _, rfl, _⟩ := h
    rfl
  · obtain ⟨v, t, rfl, hv, tl, kk⟩ := h
    refine ⟨_, (pss_cons (ps_set (i := 0) sc__law_trimmed.nd rfl (by first | exact Or.inl rfl | exact Or.inr rfl) (pe_callTy call_list_ofN (by rfl) T.n_list boot_list (pa_cons (pv 0) pa_nil)))
      (pss_cons (ps_while PassesOwn.never (pw_and (pt_cmpR op_gt (pe_callB call_len_seq (by rfl) T.n_len boot_len (pa_cons (pv 0) pa_nil)) pe_int (nomark _)) (pw_and1 (pt_cmpR op_eq (pe_ix ix_list (pv 0) (pe_un un_neg pe_int) (fun _ _ => rfl)) pe_int (nomark _)))).pt (pss_one (ps_expr (pe_bm0 PySem.F.plainAttrs_list PySem.F.slot_list_pop PySem.F.type_list_pop mt_pop (pv 0)))))
      (pss_one (ps_ret (pv 0))))), ?_⟩
    refine ⟨_, rfl, v, _, rfl, .inl hv, fun l H1 nl s1 hl => ?_⟩
    obtain ⟨_, e, hl1⟩ := of_rwL (t := t) hl
    cases e
    refine while_by (fun σ H2 => ∃ cs : List Int, σ = [some (.ref l)] ∧ Same H H2 ∧ H2 l = some (.lst (cs.map V.int)) ∧ trF cs = trF t ∧ cs.length ≤ 5)
      (fun (_ : L2.St) H2 => match H2 l with | some (.lst xs) => xs.length | _ => 0) ⟨t, rfl, s1, hl1, rfl, tl⟩ ?_ ?_
    · rintro σ H2 ⟨cs, rfl, s2, h2, et, cl⟩
      refine ⟨_, rfl, l, _, rfl, .inl (SqL.of h2), _, _, rfl, rfl, _, rfl, iteD (fun hp => ?_) (fun hp => ?_)⟩
      · have hp : 0 < cs.length := by rw [List.length_map] at hp; omega
        obtain ⟨c, x, rfl⟩ := snoc_of (t := cs) (by rintro rfl; cases hp)
        have at_ : atI ((c ++ [x]).map V.int) (-1) = some (.int x) := by
          unfold atI ixN
          rw [List.length_map, List.length_append, if_neg (by decide), if_pos (by simp; omega)]
          show ((c ++ [x]).map V.int)[((-1 : Int) + ((c.length + 1 : Nat) : Int)).toNat]? = _
          rw [show ((-1 : Int) + ((c.length + 1 : Nat) : Int)).toNat = c.length by omega, List.getElem?_map, List.getElem?_append_right (Nat.le_refl _), Nat.sub_self]
          rfl
        refine ⟨_, rfl, 1, rfl, l, _, -1, .int x, rfl, rfl, SqL.of h2, at_, rfl, _, rfl, iteE (fun hx => ?_) (fun hx => ?_)⟩
        · have hx : x = 0 := hx
          subst hx
          refine ⟨_, rfl, .inl ⟨rfl, _, SqL.of h2⟩, l, _, .int 0, rfl, rfl, h2, ?_, ⟨c, rfl, s2.put nl, ?_, ?_, ?_⟩, ?_⟩
          · rw [List.length_map, List.length_append, List.getElem?_map]
            show ((c ++ [0])[c.length + 1 - 1]?).map _ = _
            rw [Nat.add_sub_cancel, List.getElem?_append_right (Nat.le_refl _), Nat.sub_self]
            rfl
          · rw [upd_same, List.map_append]
            show some (HO.lst ((c.map V.int ++ [V.int 0]).dropLast)) = _
            rw [List.dropLast_concat]
          · rw [← et, tr_snoc0]
          · rw [List.length_append] at cl
            omega
          · show (match upd H2 l _ l with | some (.lst xs) => xs.length | _ => 0) < (match H2 l with | some (.lst xs) => xs.length | _ => 0)
            rw [upd_same, h2]
            simp only [List.length_map, List.length_append, List.length_dropLast, List.length_cons, List.length_nil]
            omega
        · have hx : x ≠ 0 := hx
          rw [tr_snoc hx] at et
          rw [← et] at kk
          exact ⟨_, rfl, kk l H2 s2 nl (is_rwL h2)⟩
      · have hp : cs = [] := by
          rw [List.length_map] at hp
          exact List.length_eq_zero_iff.mp (by omega)
        subst hp
        rw [← et] at kk
        exact iteF ⟨_, rfl, kk l H2 s2 nl (is_rwL h2)⟩
    · rintro σ H Q Q' k ⟨v1, e1, p1, ys, e2, e3, i1, i2, e4, e5, b, e6, h⟩
      refine ⟨v1, e1, p1, ys, e2, e3, i1, i2, e4, e5, b, e6, ?_⟩
      cases b with
      | false => exact k _ _ h
      | true =>
        obtain ⟨w1, f1, n1, f2, p2, xs, j, u, g1, g2, g3, g4, g5, b, g6, g⟩ := h
        exact ⟨w1, f1, n1, f2, p2, xs, j, u, g1, g2, g3, g4, g5, b, g6, k _ _ g⟩
theorem ok__law_choose : FnOk P w K mg base CX0 1 T.f__law_choose T.d__law_choose ["_law_many", "_law_few"] (spCho K) := by
  refine T.F__law_choose.ok sc__law_choose (fun vs H Q E h => ?_) (fun cdv A outer s H vs Q E hr h => ?_)
  · obtain ⟨_, _, rfl, _⟩ := h
    rfl
  · obtain ⟨n, k, rfl, h1, h2, kk⟩ := h
    refine ⟨_, (pss_cons (ps_set (i := 2) sc__law_choose.nd rfl (by first | exact Or.inl rfl | exact Or.inr rfl) pe_int)
      (pss_cons (ps_for PassesOwn.never rfl (pi_range1 (by rfl) T.n_range (pa_cons (pv 1) pa_nil)) (pg_name (i := 3) sc__law_choose.nd rfl (by first | exact Or.inl rfl | exact Or.inr rfl)) (pss_one (ps_set (i := 2) sc__law_choose.nd rfl (by first | exact Or.inl rfl | exact Or.inr rfl) (pe_op op_fdiv (pe_op op_mul (pv 2) (pe_op op_sub (pv 0) (pv 3))) (pe_op op_add (pv 3) pe_int)))))
      (pss_one (ps_ret (pv 2))))), ?_⟩
    refine ⟨_, rfl, (k : Int), rfl, by omega, by omega, for_range (lo := 0) (n := (k : Int).toNat) (fun i σ H2 => (∃ v3, σ = [some (.int n), some (.int k), some (.int (chF n i)), v3]) ∧ H2 = H) ⟨⟨none, rfl⟩, rfl⟩ ?_ ?_⟩
    · rintro i σ H2 hi ⟨⟨v3, rfl⟩, rfl⟩
      refine ⟨_, rfl, _, rfl, _, rfl, _, _, rfl, rfl, _, _, rfl, rfl, .inr ⟨by omega, by omega⟩, _, rfl, _, _, rfl, rfl, _, _, rfl, rfl, ⟨by omega, by omega⟩, ⟨some (.int (0 + (i : Int))), ?_⟩, rfl⟩
      rw [show chF n (i + 1) = chF n i * (n - (0 + (i : Int))) / ((0 + (i : Int)) + 1) by rw [Int.zero_add]; rfl]
      rfl
    · rintro σ H2 ⟨⟨v3, rfl⟩, rfl⟩
      rw [Int.toNat_natCast]
      exact ⟨_, rfl, kk⟩
theorem ok__law_weight : FnOk P w K mg base CX0 1 T.f__law_weight T.d__law_weight ["_law_row"] (spRwL K) := by
  refine T.F__law_weight.ok sc__law_weight (fun vs H Q E h => ?_) (fun cdv A outer s H vs Q E hr h => ?_)
  · obtain ⟨_, _, rfl, _⟩ := h
    rfl
  · obtain ⟨v, t, rfl, hv, tl, kk⟩ := h
    refine ⟨_, (pss_one (ps_ret (pe_callB (call_sum rfl) (by rfl) T.n_sum boot_sum (pa_cons (pe_compB (XN := ["_law_row"]) (sc := defScope s__law_weight) (N := ["_law_at", "_law_row"]) (own := 1) (js := [0]) rfl (by decide +kernel) rfl rfl (pi_range1 (by rfl) T.n_range (pa_cons (pe_callB call_len_seq (by rfl) T.n_len boot_len (pa_cons (pv 0) pa_nil)) pa_nil)) (fun _ _ _ _ => (pg_name (i := 0) (show List.Nodup (["_law_at", "_law_row"] : List Str) by decide +kernel) rfl (Or.inl rfl) (.inr rfl))) (ownG_name (by decide)) (fun _ _ _ _ => pifs_nil) (fun _ _ _ _ => (pe_op op_mul (pe_op op_add (pv 0) pe_int) (pe_ix (ix_listK (K := K) rfl) (pv 1) (pv 0) (fun _ _ => rfl))))) pa_nil)))), ?_⟩
    obtain ⟨a, rfl, ha⟩ := of_rwL hv
    refine ⟨_, rfl, a, _, rfl, .inl (SqL.of ha), _, rfl, by rw [List.length_map]; omega, by rw [List.length_map]; omega, fun acc na => ?_⟩
    rw [List.length_map, Int.toNat_natCast]
    refine comp_range (lo := 0) (n := t.length) (own := 1) (js := [0]) (fun i H2 => Same H H2 ∧ H2 acc = some (.lst (((List.range i).map fun j : Nat => ((j : Int) + 1) * t.getD j 0).map V.int))) ⟨Same.new na, upd_same⟩ ?_ ?_ mono_name mono_yes ?_
    · rintro i H2 hi ⟨s2, hacc⟩
      rw [Int.zero_add]
      refine ⟨_, rfl, _, _, rfl, rfl, _, rfl, _, rfl, a, _, _, _, rfl, rfl, SqL.of (s2 _ _ ha), vI_at hi, _, _, rfl, rfl, .inl ⟨by omega, by omega⟩, acc, _, _, rfl, rfl, hacc, small1000 (by rw [List.length_map, List.length_map, List.length_range]; omega), s2.put na, ?_⟩
      rw [upd_same, wt_take (x := t.getD i 0) (by rw [List.getD_eq_getElem?_getD, List.getElem?_eq_getElem hi]; rfl), List.map_append]
      rfl
    · rintro H2 ⟨s2, hacc⟩
      refine ⟨acc, _, rfl, SqL.of hacc, ?_⟩
      rw [wt_sum]
      exact kk H2 s2
    · rintro σ H R R' k ⟨v1, e1, i1, i2, e2, e3, v2, e4, v3, e5, p, xs, i, u, g1, g2, g3, g4, i3, i4, e6, e7, c, h⟩
      exact ⟨v1, e1, i1, i2, e2, e3, v2, e4, v3, e5, p, xs, i, u, g1, g2, g3, g4, i3, i4, e6, e7, c, k _ _ h⟩
theorem ok__law_within : FnOk P w K mg base CX0 1 T.f__law_within T.d__law_within ["_law_row"] (spLWi K) := by
  refine T.F__law_within.ok sc__law_within (fun vs H Q E h => ?_) (fun cdv A outer s H vs Q E hr h => ?_)
  · obtain ⟨_, _, rfl, _⟩ := h
    rfl
  · obtain ⟨v, t, rfl, hv, tn, ts, tl, kk⟩ := h
    refine ⟨_, (pss_cons (ps_set (i := 1) sc__law_within.nd rfl (by first | exact Or.inl rfl | exact Or.inr rfl) (pe_lstN (pa_cons (pe_lstN pa_nil) pa_nil)))
      (pss_cons (ps_for PassesOwn.never rfl (pi_list (pv 0)) (pg_name (i := 2) sc__law_within.nd rfl (by first | exact Or.inl rfl | exact Or.inr rfl)) (pss_cons (ps_set (i := 3) sc__law_within.nd rfl (by first | exact Or.inl rfl | exact Or.inr rfl) (pe_lstN pa_nil))
      (pss_cons (ps_for PassesOwn.never rfl (pi_list (pv 1)) (pg_name (i := 4) sc__law_within.nd rfl (by first | exact Or.inl rfl | exact Or.inr rfl)) (pss_one (ps_for PassesOwn.never rfl (pi_range1 (by rfl) T.n_range (pa_cons (pe_op op_add (pv 2) pe_int) pa_nil)) (pg_name (i := 5) sc__law_within.nd rfl (by first | exact Or.inl rfl | exact Or.inr rfl)) (pss_one (ps_expr (pe_bm PySem.F.plainAttrs_list PySem.F.slot_list_append PySem.F.type_list_append mt_append (pv 3) (pa_cons (pe_op op_catN (pv 4) (pe_lstN (pa_cons (pv 5) pa_nil))) pa_nil)))))))
      (pss_one (ps_set (i := 1) sc__law_within.nd rfl (by first | exact Or.inl rfl | exact Or.inr rfl) (pv 3))))))
      (pss_one (ps_ret (pv 1))))), ?_⟩
    obtain ⟨a, rfl, ha⟩ := of_rwL hv
    refine ⟨Nat.zero_le _, fun e0 H1 ne0 s1 he0 => ⟨(by show 1 ≤ sizeLine; decide), fun f0 H2 nf0 s2 hf0 => ?_⟩⟩
    have s02 := s1.trans s2
    have nf0H : H f0 = none := s1.free nf0
    refine ⟨_, rfl, a, rfl, ⟨_, SqL.of (s02 _ _ ha)⟩, for_list (xs := t.map V.int) (fun i σ H3 => (∃ fo v2 v3 v4 v5, σ = [some (.ref a), some (.ref fo), v2, v3, v4, v5] ∧ H fo = none ∧ Is (nw H H3) (.l ((rwF (t.take i)).map rwL)) (.ref fo)) ∧ Same H H3) ⟨⟨f0, none, none, none, none, rfl, nf0H, is_l (by rw [nw_new nf0H]; exact hf0) (iss_cons (nw_row ne0 (is_rwL (t := []) (s2 _ _ he0))) iss_nil)⟩, s02⟩ (fun i σ H3 _ h => SqL.of (h.2 _ _ ha)) ?_ ?_⟩
    · rintro i y σ H3 hi ⟨⟨fo, v2, v3, v4, v5, rfl, nfo, hfo⟩, s3⟩
      rw [List.getElem?_map] at hi
      obtain ⟨x, hx, rfl⟩ := Option.map_eq_some_iff.mp hi
      have il : i < t.length := (List.getElem?_eq_some_iff.mp hx).1
      have x0 : 0 ≤ x := by
        have := tn i
        rw [List.getD_eq_getElem?_getD, hx] at this
        exact this
      have nx : rwF (t.take (i + 1)) = rwS (rwF (t.take i)) x := by
        rw [List.take_add_one, hx]
        unfold rwF
        rw [List.foldl_append]
        rfl
      have big : (rwS (rwF (t.take i)) x).length ≤ 32 := by rw [← nx]; exact rw_few tn ts (i + 1)
      have hFl : ∀ b ∈ rwF (t.take i), b.length ≤ 5 := fun b hb => by
        have := (rw_mem (nn_take tn i) hb).len
        rw [List.length_take] at this
        omega
      rw [nx]
      generalize rwF (t.take i) = F at hfo big hFl
      obtain ⟨_, fvs, e, hfo3, hfi⟩ := of_l hfo
      cases e
      have hfo3 : H3 fo = some (.lst fvs) := nw_same _ _ hfo3
      have hfi : Iss H3 (F.map rwL) fvs := hfi.mono nw_same
      have flen : fvs.length = F.length := by rw [hfi.length, List.length_map]
      refine ⟨Nat.zero_le _, fun lo H4 nlo s4 hlo => ?_⟩
      have nloH : H lo = none := s3.free nlo
      have part : ∀ j, (rwS (F.take j) x).length ≤ 32 := fun j => by
        rw [rwS_len] at big ⊢
        refine Nat.le_trans (Nat.mul_le_mul_right _ ?_) big
        rw [List.length_take]
        omega
      refine ⟨_, rfl, fo, rfl, ⟨_, SqL.of (s4 _ _ hfo3)⟩, for_list (xs := fvs) (fun j σ H5 => (∃ v4 v5, σ = [some (.ref a), some (.ref fo), some (.int x), some (.ref lo), v4, v5]) ∧ Same H3 H5 ∧ Acc H3 H5 lo ((rwS (F.take j) x).map rwL)) ⟨⟨_, _, rfl⟩, s4, Acc.start hlo⟩ (fun j σ H5 _ h => SqL.of (h.2.1 _ _ hfo3)) ?_ ?_⟩
      · rintro j b σ H5 hj ⟨⟨v4, v5, rfl⟩, s5, hacc⟩
        obtain ⟨dd, hdd, hb⟩ := hfi.of_get hj
        rw [List.getElem?_map] at hdd
        obtain ⟨bb, hbb, rfl⟩ := Option.map_eq_some_iff.mp hdd
        have nx2 : rwS (F.take (j + 1)) x = rwS (F.take j) x ++ (List.range (x + 1).toNat).map fun h : Nat => bb ++ [(h : Int)] := by
          unfold rwS
          rw [List.take_add_one, hbb, List.flatMap_append]
          simp
        have pj := part (j + 1)
        rw [nx2] at pj ⊢
        rw [List.length_append, List.length_map, List.length_range] at pj
        generalize rwS (F.take j) x = R at hacc pj
        refine ⟨_, rfl, _, _, rfl, rfl, _, rfl, by omega, by omega, for_range (lo := 0) (n := (x + 1).toNat) (fun m σ H6 => (∃ v5, σ = [some (.ref a), some (.ref fo), some (.int x), some (.ref lo), some b, v5]) ∧ Same H3 H6 ∧ Acc H3 H6 lo ((R ++ (List.range m).map fun h : Nat => bb ++ [(h : Int)]).map rwL)) ⟨⟨_, rfl⟩, s5, by simpa using hacc⟩ ?_ ?_⟩
        · rintro m σ H6 hm ⟨⟨v5, rfl⟩, s6, ⟨zs, hlo6, hz⟩⟩
          rw [Int.zero_add]
          have zl := hz.length
          rw [List.length_map, List.length_append, List.length_map, List.length_range] at zl
          refine ⟨_, rfl, .inl ⟨rfl, _, SqL.of hlo6⟩, _, rfl, _, rfl, (by show 1 ≤ sizeLine; decide), fun q H7 nq s7 hq => ?_⟩
          refine ⟨bb.map .i, [.i (m : Int)], (hb.mono s6).mono s7, is_l hq (iss_cons is_i iss_nil), Nat.le_of_lt (small1000 (by have := hFl bb (List.mem_of_getElem? hbb); rw [List.length_map]; show _ + 1 ≤ 1000; omega)), fun p H8 np s8 hp => ?_⟩
          have s68 := s7.trans s8
          refine ⟨lo, zs, _, rfl, rfl, s68 _ _ hlo6, small1000 (by omega), ⟨_, rfl⟩, (s6.trans s68).put nlo, ?_⟩
          have en : R ++ (List.range (m + 1)).map (fun h : Nat => bb ++ [(h : Int)]) = (R ++ (List.range m).map fun h : Nat => bb ++ [(h : Int)]) ++ [bb ++ [(m : Int)]] := by
            rw [List.range_succ, List.map_append, ← List.append_assoc]
            rfl
          rw [en, List.map_append]
          refine Acc.add s6 s68 hlo6 hz (nw_row (s7.free np) ?_)
          show Is H8 (.l ((bb ++ [(m : Int)]).map .i)) _
          rw [List.map_append]
          exact hp
        · rintro σ H6 ⟨⟨v5, rfl⟩, s6, hacc⟩
          exact ⟨⟨_, _, rfl⟩, s6, hacc⟩
      · rintro σ H5 ⟨⟨v4, v5, rfl⟩, s5, hacc⟩
        rw [flen, List.take_length] at hacc
        exact ⟨_, rfl, ⟨lo, _, _, _, _, rfl, nloH, (hacc.is nlo).mono (nw_later s3)⟩, s3.trans s5⟩
    · rintro σ H3 ⟨⟨fo, v2, v3, v4, v5, rfl, nfo, hfo⟩, s3⟩
      rw [List.length_map, List.take_length] at hfo
      exact ⟨_, rfl, kk fo H3 s3 nfo hfo⟩
theorem laS_len {row : List Int} {sp at_ : Nat} {F : List (List Int)} : (laS row sp F at_).length = F.length * (sp / (at_ + 1) + 1) := by
  unfold laS
  induction F with
  | nil => simp
  | cons b F ih => rw [List.flatMap_cons, List.length_append, ih, List.length_map, List.length_range, List.length_cons, Nat.succ_mul, Nat.add_comm]
theorem la_len {row : List Int} {sp : Nat} (h : sp ≤ 5) : ∀ n : Nat, (laG row sp n).length ≤ 6 ^ n
  | 0 => Nat.le_refl _
  | n + 1 => by
    unfold laG
    rw [List.range_succ, List.foldl_append]
    show (laS row sp (laG row sp n) n).length ≤ _
    rw [laS_len, Nat.pow_succ]
    refine Nat.mul_le_mul (la_len h n) ?_
    have := Nat.div_le_self sp (n + 1)
    omega
theorem la_row {row : List Int} {sp : Nat} : ∀ {n : Nat}, ∀ b ∈ laG row sp n, b.length = n
  | 0, b, hb => by rw [List.mem_singleton.mp hb]; rfl
  | n + 1, b, hb => by
    unfold laG at hb
    rw [List.range_succ, List.foldl_append] at hb
    obtain ⟨c, hc, hb⟩ := List.mem_flatMap.mp (show b ∈ laS row sp (laG row sp n) n from hb)
    obtain ⟨m, _, rfl⟩ := List.mem_map.mp hb
    rw [List.length_append, la_row c hc]
    rfl
theorem ok__law_above : FnOk P w K mg base CX0 2 T.f__law_above T.d__law_above ["_law_row", "_law_spare"] (spLAb K) := by
  refine T.F__law_above.ok sc__law_above (fun vs H Q E h => ?_) (fun cdv A outer s H vs Q E hr h => ?_)
  · obtain ⟨_, _, _, rfl, _⟩ := h
    rfl
  · obtain ⟨v, t, sp, rfl, hv, tl, sp5, kk⟩ := h
    refine ⟨_, (pss_cons (ps_set (i := 2) sc__law_above.nd rfl (by first | exact Or.inl rfl | exact Or.inr rfl) (pe_lstN (pa_cons (pe_lstN pa_nil) pa_nil)))
      (pss_cons (ps_for PassesOwn.never rfl (pi_range1 (by rfl) T.n_range (pa_cons (pe_callB call_len_seq (by rfl) T.n_len boot_len (pa_cons (pv 0) pa_nil)) pa_nil)) (pg_name (i := 3) sc__law_above.nd rfl (by first | exact Or.inl rfl | exact Or.inr rfl)) (pss_cons (ps_set (i := 4) sc__law_above.nd rfl (by first | exact Or.inl rfl | exact Or.inr rfl) (pe_lstN pa_nil))
      (pss_cons (ps_for PassesOwn.never rfl (pi_list (pv 2)) (pg_name (i := 5) sc__law_above.nd rfl (by first | exact Or.inl rfl | exact Or.inr rfl)) (pss_one (ps_for PassesOwn.never rfl (pi_range1 (by rfl) T.n_range (pa_cons (pe_op op_add (pe_op op_fdiv (pv 1) (pe_op op_add (pv 3) pe_int)) pe_int) pa_nil)) (pg_name (i := 6) sc__law_above.nd rfl (by first | exact Or.inl rfl | exact Or.inr rfl)) (pss_one (ps_expr (pe_bm PySem.F.plainAttrs_list PySem.F.slot_list_append PySem.F.type_list_append mt_append (pv 4) (pa_cons (pe_op op_catN (pv 5) (pe_lstN (pa_cons (pe_op op_add (pe_ix ix_list (pv 0) (pv 3) (fun _ _ => rfl)) (pv 6)) pa_nil))) pa_nil)))))))
      (pss_one (ps_set (i := 2) sc__law_above.nd rfl (by first | exact Or.inl rfl | exact Or.inr rfl) (pv 4))))))
      (pss_one (ps_ret (pe_compB (XN := ["_law_row", "_law_spare", "_law_found", "_law_at", "_law_longer", "_law_one_here", "_law_more"]) (sc := defScope s__law_above) (N := ["_law_one_here", "_law_row", "_law_spare"]) (own := 1) (js := [0, 1]) rfl (by decide +kernel) rfl rfl (pi_list (pv 2)) (fun _ _ _ _ => (pg_name (i := 0) (show List.Nodup (["_law_one_here", "_law_row", "_law_spare"] : List Str) by decide +kernel) rfl (Or.inl rfl) (.inr rfl))) (ownG_name (by decide)) (fun _ _ _ _ => (pifs_one (pt_cmpR op_eq (pe_call (ok__law_weight T) (hr.mono (by decide)) (by rfl) T.m__law_weight T.F__law_weight.kp T.B__law_weight .nil pass0 (pa_cons (pv 0) pa_nil)) (pe_op op_add (pe_call (ok__law_weight T) (hr.mono (by decide)) (by rfl) T.m__law_weight T.F__law_weight.kp T.B__law_weight .nil pass0 (pa_cons (pv 1) pa_nil)) (pv 2)) (nomark _)))) (fun _ _ _ _ => (pv 0))))))), ?_⟩
    obtain ⟨a, rfl, ha⟩ := of_rwL hv
    refine ⟨Nat.zero_le _, fun e0 H1 ne0 s1 he0 => ⟨(by show 1 ≤ sizeLine; decide), fun f0 H2 nf0 s2 hf0 => ?_⟩⟩
    have s02 := s1.trans s2
    have nf0H : H f0 = none := s1.free nf0
    refine ⟨_, rfl, a, _, rfl, .inl (SqL.of (s02 _ _ ha)), _, rfl, by rw [List.length_map]; omega, by rw [List.length_map]; omega, ?_⟩
    rw [List.length_map, Int.toNat_natCast]
    refine for_range (lo := 0) (n := t.length) (fun i σ H3 => (∃ fo v3 v4 v5 v6, σ = [some (.ref a), some (.int sp), some (.ref fo), v3, v4, v5, v6] ∧ H fo = none ∧ Is (nw H H3) (.l ((laG t sp i).map rwL)) (.ref fo)) ∧ Same H H3) ⟨⟨f0, none, none, none, none, rfl, nf0H, is_l (by rw [nw_new nf0H]; exact hf0) (iss_cons (nw_row ne0 (is_rwL (t := []) (s2 _ _ he0))) iss_nil)⟩, s02⟩ ?_ ?_
    · rintro i σ H3 hi ⟨⟨fo, v3, v4, v5, v6, rfl, nfo, hfo⟩, s3⟩
      rw [Int.zero_add]
      have nx : laG t sp (i + 1) = laS t sp (laG t sp i) i := by
        unfold laG
        rw [List.range_succ, List.foldl_append]
        rfl
      have big : (laS t sp (laG t sp i) i).length ≤ 7776 := by
        rw [← nx]
        exact Nat.le_trans (la_len sp5 (i + 1)) (show 6 ^ (i + 1) ≤ 6 ^ 5 from Nat.pow_le_pow_right (by decide) (by omega))
      have hFl : ∀ b ∈ laG t sp i, b.length ≤ 5 := fun b hb => by rw [la_row b hb]; omega
      rw [nx]
      generalize laG t sp i = F at hfo big hFl
      obtain ⟨_, fvs, e, hfo3, hfi⟩ := of_l hfo
      cases e
      have hfo3 : H3 fo = some (.lst fvs) := nw_same _ _ hfo3
      have hfi : Iss H3 (F.map rwL) fvs := hfi.mono nw_same
      have flen : fvs.length = F.length := by rw [hfi.length, List.length_map]
      refine ⟨Nat.zero_le _, fun lo H4 nlo s4 hlo => ?_⟩
      have nloH : H lo = none := s3.free nlo
      have part : ∀ j, (laS t sp (F.take j) i).length ≤ 7776 := fun j => by
        rw [laS_len] at big ⊢
        refine Nat.le_trans (Nat.mul_le_mul_right _ ?_) big
        rw [List.length_take]
        omega
      refine ⟨_, rfl, fo, rfl, ⟨_, SqL.of (s4 _ _ hfo3)⟩, for_list (xs := fvs) (fun j σ H5 => (∃ v5 v6, σ = [some (.ref a), some (.int sp), some (.ref fo), some (.int i), some (.ref lo), v5, v6]) ∧ Same H3 H5 ∧ Acc H3 H5 lo ((laS t sp (F.take j) i).map rwL)) ⟨⟨_, _, rfl⟩, s4, Acc.start hlo⟩ (fun j σ H5 _ h => SqL.of (h.2.1 _ _ hfo3)) ?_ ?_⟩
      · rintro j b σ H5 hj ⟨⟨v5, v6, rfl⟩, s5, hacc⟩
        obtain ⟨dd, hdd, hb⟩ := hfi.of_get hj
        rw [List.getElem?_map] at hdd
        obtain ⟨bb, hbb, rfl⟩ := Option.map_eq_some_iff.mp hdd
        have nx2 : laS t sp (F.take (j + 1)) i = laS t sp (F.take j) i ++ (List.range (sp / (i + 1) + 1)).map fun m : Nat => bb ++ [t.getD i 0 + (m : Int)] := by
          unfold laS
          rw [List.take_add_one, hbb, List.flatMap_append]
          simp
        have pj := part (j + 1)
        rw [nx2] at pj ⊢
        rw [List.length_append, List.length_map, List.length_range] at pj
        generalize laS t sp (F.take j) i = R at hacc pj
        obtain ⟨qq, hqq⟩ : ∃ qq : Nat, sp / (i + 1) = qq := ⟨_, rfl⟩
        have q5 : qq ≤ 5 := by have := Nat.div_le_self sp (i + 1); omega
        have eq : (sp : Int) / ((i : Int) + 1) = (qq : Int) := by
          rw [← hqq, Int.natCast_ediv]
          rfl
        refine ⟨_, rfl, _, rfl, _, _, rfl, rfl, _, _, rfl, rfl, ⟨by omega, by omega⟩, _, _, rfl, rfl, _, rfl, by rw [eq]; omega, by rw [eq]; omega, ?_⟩
        rw [eq, hqq, show ((qq : Int) + 1).toNat = qq + 1 by omega]
        rw [hqq] at pj
        refine for_range (lo := 0) (n := qq + 1) (fun m σ H6 => (∃ v6, σ = [some (.ref a), some (.int sp), some (.ref fo), some (.int i), some (.ref lo), some b, v6]) ∧ Same H3 H6 ∧ Acc H3 H6 lo ((R ++ (List.range m).map fun m : Nat => bb ++ [t.getD i 0 + (m : Int)]).map rwL)) ⟨⟨_, rfl⟩, s5, by simpa using hacc⟩ ?_ ?_
        · rintro m σ H6 hm ⟨⟨v6, rfl⟩, s6, ⟨zs, hlo6, hz⟩⟩
          rw [Int.zero_add]
          have zl := hz.length
          rw [List.length_map, List.length_append, List.length_map, List.length_range] at zl
          refine ⟨_, rfl, .inl ⟨rfl, _, SqL.of hlo6⟩, _, rfl, _, rfl, _, rfl, a, _, _, _, rfl, rfl, SqL.of ((s3.trans s6) _ _ ha), vI_at hi, _, rfl, _, _, rfl, rfl, (by show 1 ≤ sizeLine; decide), fun q H7 nq s7 hq => ?_⟩
          refine ⟨bb.map .i, [.i (t.getD i 0 + (m : Int))], (hb.mono s6).mono s7, is_l hq (iss_cons is_i iss_nil), Nat.le_of_lt (small1000 (by have := hFl bb (List.mem_of_getElem? hbb); rw [List.length_map]; show _ + 1 ≤ 1000; omega)), fun p H8 np s8 hp => ?_⟩
          have s68 := s7.trans s8
          refine ⟨lo, zs, _, rfl, rfl, s68 _ _ hlo6, lineB (by omega), ⟨_, rfl⟩, (s6.trans s68).put nlo, ?_⟩
          have en : R ++ (List.range (m + 1)).map (fun m : Nat => bb ++ [t.getD i 0 + (m : Int)]) = (R ++ (List.range m).map fun m : Nat => bb ++ [t.getD i 0 + (m : Int)]) ++ [bb ++ [t.getD i 0 + (m : Int)]] := by
            rw [List.range_succ, List.map_append, ← List.append_assoc]
            rfl
          rw [en, List.map_append]
          refine Acc.add s6 s68 hlo6 hz (nw_row (s7.free np) ?_)
          show Is H8 (.l ((bb ++ [t.getD i 0 + (m : Int)]).map .i)) _
          rw [List.map_append]
          exact hp
        · rintro σ H6 ⟨⟨v6, rfl⟩, s6, hacc⟩
          exact ⟨⟨_, _, rfl⟩, s6, hacc⟩
      · rintro σ H5 ⟨⟨v5, v6, rfl⟩, s5, hacc⟩
        rw [flen, List.take_length] at hacc
        exact ⟨_, rfl, ⟨lo, _, _, _, _, rfl, nloH, (hacc.is nlo).mono (nw_later s3)⟩, s3.trans s5⟩
    · rintro σ H3 ⟨⟨fo, v3, v4, v5, v6, rfl, nfo, hfo⟩, s3⟩
      unfold laF at kk
      have gl : ∀ b ∈ laG t sp t.length, b.length ≤ 5 := fun b hb => by rw [la_row b hb]; exact tl
      have g7 : (laG t sp t.length).length ≤ 7776 := Nat.le_trans (la_len sp5 t.length) (show 6 ^ t.length ≤ 6 ^ 5 from Nat.pow_le_pow_right (by decide) tl)
      generalize laG t sp t.length = F at hfo kk gl g7
      obtain ⟨_, fvs, e, hfo3', hfi'⟩ := of_l hfo
      cases e
      have hfo3 : H3 fo = some (.lst fvs) := nw_same _ _ hfo3'
      have flen : fvs.length = F.length := by rw [hfi'.length, List.length_map]
      refine ⟨_, rfl, fo, rfl, ⟨_, SqL.of hfo3⟩, fun acc na => ?_⟩
      have naH : H acc = none := s3.free na
      refine comp_list (xs := fvs) (own := 1) (js := [0, 1]) (fun i H5 => Same H3 H5 ∧ ∃ zs, H5 acc = some (.lst zs) ∧ Iss (nw H H3) (((F.take i).filter fun t' => decide (wtF t' = wtF t + (sp : Int))).map rwL) zs) ⟨Same.new na, [], upd_same, iss_nil⟩ (fun i H5 _ h => SqL.of (h.1 _ _ hfo3)) ?_ ?_ mono_name ?_ ?_
      · rintro i x H5 hi ⟨s5, zs, hacc, hz⟩
        obtain ⟨dd, hdd, hy⟩ := hfi'.of_get hi
        rw [List.getElem?_map] at hdd
        obtain ⟨bb, hbb, rfl⟩ := Option.map_eq_some_iff.mp hdd
        have b5 := gl bb (List.mem_of_getElem? hbb)
        have hy5 : Is H5 (rwL bb) x := (hy.mono nw_same).mono s5
        have nx : (F.take (i + 1)).filter (fun t' => decide (wtF t' = wtF t + (sp : Int))) = (F.take i).filter (fun t' => decide (wtF t' = wtF t + (sp : Int))) ++ if decide (wtF bb = wtF t + (sp : Int)) = true then [bb] else [] := by
          rw [List.take_add_one, hbb, List.filter_append]
          simp only [Option.toList_some, List.filter_cons, List.filter_nil]
        have fl := List.length_filter_le (fun t' => decide (wtF t' = wtF t + (sp : Int))) (F.take i)
        rw [List.length_take] at fl
        have zl := hz.length
        rw [List.length_map] at zl
        rw [nx]
        refine ⟨_, rfl, x, bb, rfl, hy5, b5, fun H6 s6 => ⟨_, rfl, .ref a, t, rfl, (hv.mono s3).mono (s5.trans s6), tl, fun H7 s7 => ⟨_, rfl, _, _, rfl, rfl, rfl, _, rfl, ?_⟩⟩⟩
        have s57 := s6.trans s7
        refine iteE (fun e => ?_) (fun e => ?_)
        · have e : wtF bb = wtF t + (sp : Int) := e
          rw [if_pos (decide_eq_true e), List.map_append]
          exact ⟨_, rfl, acc, zs, _, rfl, rfl, s57 _ _ hacc, lineB (by omega), (s5.trans s57).put na, _, upd_same, hz.append (iss_cons hy iss_nil)⟩
        · have e : ¬ wtF bb = wtF t + (sp : Int) := e
          rw [if_neg (by simpa using e), List.append_nil]
          exact ⟨s5.trans s57, zs, s57 _ _ hacc, hz⟩
      · rintro H5 ⟨s5, zs, hacc, hz⟩
        rw [flen, List.take_length] at hz
        exact kk acc H5 (s3.trans s5) naH (is_l (by rw [nw_new naH]; exact hacc) (hz.mono (nw_mono s5)))
      · rintro σ H R R' k ⟨v1, e1, u, t', e2, i2, l2, h⟩
        refine ⟨v1, e1, u, t', e2, i2, l2, fun H6 s6 => ?_⟩
        obtain ⟨w1, f1, u', t2, f2, f3, f4, g⟩ := h H6 s6
        refine ⟨w1, f1, u', t2, f2, f3, f4, fun H7 s7 => ?_⟩
        obtain ⟨x1, y1, z1, z2, z3, z4, z5, b, z6, z7⟩ := g H7 s7
        exact ⟨x1, y1, z1, z2, z3, z4, z5, b, z6, k _ _ z7⟩
      · rintro σ H R R' k ⟨v1, e1, h⟩
        exact ⟨v1, e1, k _ _ h⟩
def gS (x : Sm4) : Int := x.1 * prdF x.2.1 * cF x.2.2
def spLBy (g : Ask4 → List Sm4) : Sp := fun vs H Q _ => ∃ (d k : Nat) (v1 v2 : V) (hh ff : List Int), vs = [.int d, .int k, v1, v2] ∧ Is H (rwL hh) v1 ∧ Is H (rwL ff) v2 ∧ Wide d k ∧ AskOk d ⟨d, k, hh, ff⟩ ∧ 2 ≤ d ∧ ∀ H', Same H H' → Q (.int ((g ⟨d, k, hh, ff⟩).map gS).sum) H'
def spLWy (_ : PySem.W.Frag) : Sp := fun vs H Q _ => ∃ (v1 v2 v3 v4 : V) (kp hh ff fr : List Int), vs = [v1, v2, v3, v4] ∧ Is H (rwL kp) v1 ∧ Is H (rwL hh) v2 ∧ Is H (rwL ff) v3 ∧ Is H (rwL fr) v4 ∧ Le kp hh ∧ Le ff fr ∧ kp.length = ff.length ∧ hh.length ≤ 5 ∧ hh.sum ≤ 5 ∧ fr.sum ≤ 5 ∧ Q (.int (wysG 1 kp hh ff fr)) H
theorem tr_row {t : List Int} {n : Nat} (hl : t.length = n) (h : Nn t) (n5 : n ≤ 5) : RowOk (trF t) ∧ (trF t).length ≤ n ∧ padT n (trF t) = t ∧ wtF (trF t) = wtF t := by
  obtain ⟨h1, h2, h3⟩ := tr_all hl
  have hw : wtF (trF t) = wtF t := by
    conv => rhs; rw [← h2]
    exact wt_rep.symm
  have hn : Nn (trF t) := fun i => by
    by_cases hi : i < (trF t).length
    · have := h i
      rw [← h2] at this
      unfold padT at this
      rwa [List.getD_eq_getElem?_getD, List.getElem?_append_left hi, ← List.getD_eq_getElem?_getD] at this
    · rw [List.getD_eq_getElem?_getD, List.getElem?_eq_none (by omega)]
      exact Int.le_refl 0
  refine ⟨⟨hn, by omega, h3.imp_right fun ⟨s, x, e, x0⟩ => ⟨s, x, e, ?_⟩⟩, h1, h2, hw⟩
  rw [e] at hn
  have := (nn_of_snoc hn).2
  omega
theorem ok__law_by_held : FnOk P w K mg base CX0 55 T.f__law_by_held T.d__law_by_held ["_law_d", "_law_k", "_law_held", "_law_free"] (spLBy heldF) := by
  refine T.F__law_by_held.ok sc__law_by_held (fun vs H Q E h => ?_) (fun cdv A outer s H vs Q E hr h => ?_)
  · obtain ⟨_, _, _, _, _, _, rfl, _⟩ := h
    rfl
  · obtain ⟨d, k, v1, v2, hh, ff, rfl, hv1, hv2, hw, aq, d2, kk⟩ := h
    refine ⟨_, (pss_cons (ps_set (i := 4) sc__law_by_held.nd rfl (by first | exact Or.inl rfl | exact Or.inr rfl) pe_int)
      (pss_cons (ps_for PassesOwn.never rfl (pi_range1 (by rfl) T.n_range (pa_cons (pv 0) pa_nil)) (pg_name (i := 5) sc__law_by_held.nd rfl (by first | exact Or.inl rfl | exact Or.inr rfl)) (pss_one (ps_if (pt_cmpR op_gt (pe_ix ix_list (pv 3) (pv 5) (fun _ _ => rfl)) pe_int (nomark _)) (pss_cons (ps_set (i := 6) sc__law_by_held.nd rfl (by first | exact Or.inl rfl | exact Or.inr rfl) (pe_callTy call_list_ofN (by rfl) T.n_list boot_list (pa_cons (pv 2) pa_nil)))
      (pss_cons (ps_asg (pe_op op_add (pe_ix ix_list (pv 6) (pv 5) (fun _ _ => rfl)) pe_int) (pg_sub (pv 6) (pv 5) set_list))
      (pss_cons (ps_set (i := 7) sc__law_by_held.nd rfl (by first | exact Or.inl rfl | exact Or.inr rfl) (pe_callTy call_list_ofN (by rfl) T.n_list boot_list (pa_cons (pv 3) pa_nil)))
      (pss_cons (ps_asg (pe_op op_sub (pe_ix ix_list (pv 7) (pv 5) (fun _ _ => rfl)) pe_int) (pg_sub (pv 7) (pv 5) set_list))
      (pss_one (ps_set (i := 4) sc__law_by_held.nd rfl (by first | exact Or.inl rfl | exact Or.inr rfl) (pe_op op_add (pv 4) (pe_op op_mul (pe_op op_add (pv 5) pe_int) (pe_call (ok_by_ends T) (hr.mono (by decide)) (by rfl) T.m_by_ends T.F_by_ends.kp T.B_by_ends .nil pass0 (pa_cons (pv 0) (pa_cons (pv 1) (pa_cons (pe_call (ok__law_trimmed T) (hr.mono (by decide)) (by rfl) T.m__law_trimmed T.F__law_trimmed.kp T.B__law_trimmed .nil pass0 (pa_cons (pv 6) pa_nil)) (pa_cons (pe_call (ok__law_trimmed T) (hr.mono (by decide)) (by rfl) T.m__law_trimmed T.F__law_trimmed.kp T.B__law_trimmed .nil pass0 (pa_cons (pv 7) pa_nil)) pa_nil))))))))))))) pss_nil)))
      (pss_one (ps_ret (pv 4))))), ?_⟩
    obtain ⟨ha, rfl, hha⟩ := of_rwL hv1
    obtain ⟨fa, rfl, hfa⟩ := of_rwL hv2
    have hl : hh.length = d := aq.hl
    have fl : ff.length = d := aq.fl
    have d5 := aq.L5
    unfold heldF at kk
    rw [show ((⟨d, k, hh, ff⟩ : Ask4).f).length = d from fl] at kk
    refine ⟨_, rfl, _, rfl, by omega, by omega, ?_⟩
    rw [Int.toNat_natCast]
    refine for_range (lo := 0) (n := d) (fun i σ H2 => (∃ v5 v6 v7, σ = [some (.int d), some (.int k), some (.ref ha), some (.ref fa), some (.int ((((List.range i).flatMap (hel1 ⟨d, k, hh, ff⟩)).map gS).sum)), v5, v6, v7]) ∧ Same H H2) ⟨⟨none, none, none, rfl⟩, Same.refl _⟩ ?_ ?_
    · rintro i σ H2 hi ⟨⟨v5, v6, v7, rfl⟩, s2⟩
      rw [Int.zero_add]
      have nx : (((List.range (i + 1)).flatMap (hel1 ⟨d, k, hh, ff⟩)).map gS).sum = (((List.range i).flatMap (hel1 ⟨d, k, hh, ff⟩)).map gS).sum + ((hel1 ⟨d, k, hh, ff⟩ i).map gS).sum := by
        rw [List.range_succ, List.flatMap_append, List.flatMap_cons, List.flatMap_nil, List.append_nil, List.map_append, List.sum_append]
      rw [nx]
      generalize (((List.range i).flatMap (hel1 ⟨d, k, hh, ff⟩)).map gS).sum = tot
      refine ⟨_, rfl, _, rfl, fa, _, _, _, rfl, rfl, SqL.of (s2 _ _ hfa), vI_at (by omega), _, _, rfl, rfl, _, rfl, iteD (fun hg => ?_) (fun hg => ?_)⟩
      · have hg : ff.getD i 0 > 0 := hg
        have eh : hel1 ⟨d, k, hh, ff⟩ i = [(1, [(i : Int) + 1], ⟨d, k, wmF hh i 1, wmF ff i (-1)⟩)] := if_pos hg
        obtain ⟨a', _⟩ := aq.held (x := (1, [(i : Int) + 1], ⟨d, k, wmF hh i 1, wmF ff i (-1)⟩)) (List.mem_flatMap.mpr ⟨i, List.mem_range.mpr (by show i < ff.length; omega), by rw [eh]; exact List.mem_cons_self⟩)
        have a' : AskOk d ⟨d, k, wmF hh i 1, wmF ff i (-1)⟩ := a'
        refine ⟨_, rfl, .ref ha, _, rfl, .inl (hv1.mono s2), fun m1 H3 n1 s3 h3 => ?_⟩
        obtain ⟨_, e, g3⟩ := of_rwL (t := hh) h3
        cases e
        refine ⟨_, rfl, _, rfl, m1, _, _, _, rfl, rfl, SqL.of g3, vI_at (by omega), _, _, rfl, rfl, _, rfl, _, rfl, m1, _, _, i, rfl, rfl, g3, ixN_nat (by rw [List.length_map]; omega), ?_⟩
        rw [vI_set]
        have s4 : Same H2 (upd H3 m1 (.lst ((wmF hh i 1).map V.int))) := s3.put n1
        have g4 : upd H3 m1 (.lst ((wmF hh i 1).map V.int)) m1 = some (.lst ((wmF hh i 1).map V.int)) := upd_same
        generalize upd H3 m1 (.lst ((wmF hh i 1).map V.int)) = H4 at s4 g4
        have s04 := s2.trans s4
        refine ⟨_, rfl, .ref fa, _, rfl, .inl (hv2.mono s04), fun m2 H5 n2 s5 h5 => ?_⟩
        obtain ⟨_, e, g5⟩ := of_rwL (t := ff) h5
        cases e
        have m12 : m1 ≠ m2 := by rintro rfl; rw [g4] at n2; cases n2
        have es : ff.getD i 0 - 1 = ff.getD i 0 + (-1) := rfl
        refine ⟨_, rfl, _, rfl, m2, _, _, _, rfl, rfl, SqL.of g5, vI_at (by omega), _, _, rfl, rfl, _, rfl, _, rfl, m2, _, _, i, rfl, rfl, g5, ixN_nat (by rw [List.length_map]; omega), ?_⟩
        dsimp only
        rw [es, vI_set]
        have s6 : Same H4 (upd H5 m2 (.lst ((wmF ff i (-1)).map V.int))) := s5.put n2
        have g6 : upd H5 m2 (.lst ((wmF ff i (-1)).map V.int)) m2 = some (.lst ((wmF ff i (-1)).map V.int)) := upd_same
        generalize upd H5 m2 (.lst ((wmF ff i (-1)).map V.int)) = H6 at s6 g6
        have h1 : (wmF hh i 1).length = d := a'.hl
        have h2 : (wmF ff i (-1)).length = d := a'.fl
        obtain ⟨r1, r2, r3, r4⟩ := tr_row h1 a'.hn d5
        obtain ⟨q1, q2, q3, q4⟩ := tr_row h2 a'.fn d5
        refine ⟨_, rfl, _, rfl, _, _, rfl, rfl, _, rfl, _, rfl, _, rfl, .ref m1, _, rfl, is_rwL (s6 _ _ g4), by omega, fun t1 H7 s7 nt1 ht1 => ?_⟩
        refine ⟨_, rfl, .ref m2, _, rfl, is_rwL (s7 _ _ g6), by omega, fun t2 H8 s8 nt2 ht2 => ?_⟩
        refine ⟨d, k, .ref t1, .ref t2, _, _, rfl, hw, ht1.mono s8, ht2, r1, q1, by rw [r4, q4]; exact a'.wt, r2, q2, fun H9 s9 => ?_⟩
        rw [r3, q3]
        refine ⟨_, _, rfl, rfl, .inl ⟨by omega, by omega⟩, _, _, rfl, rfl, ⟨some (.int i), some (.ref m1), some (.ref m2), ?_⟩, (((s04.trans s6).trans s7).trans s8).trans s9⟩
        have eg : ((hel1 ⟨d, k, hh, ff⟩ i).map gS).sum = ((i : Int) + 1) * cF ⟨d, k, wmF hh i 1, wmF ff i (-1)⟩ := by
          rw [eh]
          show 1 * (1 * ((i : Int) + 1)) * cF _ + 0 = _
          rw [Int.one_mul, Int.one_mul, Int.add_zero]
        rw [eg]
        rfl
      · have hg : ¬ ff.getD i 0 > 0 := hg
        have eh : ((hel1 ⟨d, k, hh, ff⟩ i).map gS).sum = 0 := by
          rw [show hel1 ⟨d, k, hh, ff⟩ i = [] from if_neg hg]
          rfl
        rw [eh, Int.add_zero]
        exact ⟨⟨some (.int i), v6, v7, rfl⟩, s2⟩
    · rintro σ H2 ⟨⟨v5, v6, v7, rfl⟩, s2⟩
      exact ⟨_, rfl, kk H2 s2⟩
theorem wys_take : ∀ {a b c e : List Int} {k : Int} {i : Nat}, i < a.length → a.length = b.length → a.length = c.length → a.length = e.length → wysG k (a.take (i + 1)) (b.take (i + 1)) (c.take (i + 1)) (e.take (i + 1)) = wysG k (a.take i) (b.take i) (c.take i) (e.take i) * (chF (b.getD i 0) (a.getD i 0).toNat * chF (e.getD i 0) (c.getD i 0).toNat * (k + i) ^ (e.getD i 0 - c.getD i 0).toNat)
  | x :: a, y :: b, z :: c, u :: e, k, 0, _, _, _, _ => by simp [wysG]
  | x :: a, y :: b, z :: c, u :: e, k, i + 1, h, h1, h2, h3 => by
    rw [List.take_succ_cons, List.take_succ_cons, List.take_succ_cons, List.take_succ_cons, List.take_succ_cons, List.take_succ_cons, List.take_succ_cons, List.take_succ_cons]
    show _ * wysG (k + 1) (a.take (i + 1)) (b.take (i + 1)) (c.take (i + 1)) (e.take (i + 1)) = _ * wysG (k + 1) (a.take i) (b.take i) (c.take i) (e.take i) * _
    rw [wys_take (k := k + 1) (by simpa using h) (by simpa using h1) (by simpa using h2) (by simpa using h3), ← Int.mul_assoc]
    simp only [List.getD_cons_succ]
    rw [show k + 1 + (i : Int) = k + ((i + 1 : Nat) : Int) by omega]
  | [], _, _, _, _, _, h, _, _, _ => absurd h (Nat.not_lt_zero _)
  | _ :: _, [], _, _, _, _, _, h, _, _ => nomatch h
  | _ :: _, _ :: _, [], _, _, _, _, _, h, _ => nomatch h
  | _ :: _, _ :: _, _ :: _, [], _, _, _, _, _, h => nomatch h
theorem ch_at {a b : List Int} (h : Le a b) (hs : b.sum ≤ 5) {i : Nat} (hi : i < a.length) : 0 ≤ a.getD i 0 ∧ a.getD i 0 ≤ b.getD i 0 ∧ b.getD i 0 ≤ 5 ∧ 0 ≤ chF (b.getD i 0) (a.getD i 0).toNat ∧ chF (b.getD i 0) (a.getD i 0).toNat ≤ 32 := by
  have ll := h.len
  have e1 : a[i]? = some (a.getD i 0) := by rw [List.getD_eq_getElem?_getD, List.getElem?_eq_getElem hi]; rfl
  have e2 : b[i]? = some (b.getD i 0) := by rw [List.getD_eq_getElem?_getD, List.getElem?_eq_getElem (by omega)]; rfl
  obtain ⟨y0, yx⟩ := le_at h e2 e1
  have x5 := at_le_sum (Le.nn h).2 e2
  obtain ⟨c0, c1⟩ := ch_pow y0 yx (by omega)
  have c2 : (2 : Int) ^ (b.getD i 0).toNat ≤ 2 ^ 5 := by
    have : (b.getD i 0).toNat = 0 ∨ (b.getD i 0).toNat = 1 ∨ (b.getD i 0).toNat = 2 ∨ (b.getD i 0).toNat = 3 ∨ (b.getD i 0).toNat = 4 ∨ (b.getD i 0).toNat = 5 := by omega
    rcases this with e | e | e | e | e | e <;> rw [e] <;> decide
  have d5 : (2 : Int) ^ 5 = 32 := by decide
  exact ⟨y0, yx, by omega, c0, by omega⟩
theorem ok__law_ways : FnOk P w K mg base CX0 2 T.f__law_ways T.d__law_ways ["_law_kept", "_law_held", "_law_free", "_law_freed"] (spLWy K) := by
  refine T.F__law_ways.ok sc__law_ways (fun vs H Q E h => ?_) (fun cdv A outer s H vs Q E hr h => ?_)
  · obtain ⟨_, _, _, _, _, _, _, _, rfl, _⟩ := h
    rfl
  · obtain ⟨v1, v2, v3, v4, kp, hh, ff, fr, rfl, h1, h2, h3, h4, le1, le2, e12, l5, s5, f5, kk⟩ := h
    refine ⟨_, (pss_cons (ps_set (i := 4) sc__law_ways.nd rfl (by first | exact Or.inl rfl | exact Or.inr rfl) pe_int)
      (pss_cons (ps_for PassesOwn.never rfl (pi_range1 (by rfl) T.n_range (pa_cons (pe_callB call_len_seq (by rfl) T.n_len boot_len (pa_cons (pv 1) pa_nil)) pa_nil)) (pg_name (i := 5) sc__law_ways.nd rfl (by first | exact Or.inl rfl | exact Or.inr rfl)) (pss_cons (ps_set (i := 4) sc__law_ways.nd rfl (by first | exact Or.inl rfl | exact Or.inr rfl) (pe_op op_mul (pe_op op_mul (pv 4) (pe_call (ok__law_choose T) (hr.mono (by decide)) (by rfl) T.m__law_choose T.F__law_choose.kp T.B__law_choose .nil pass0 (pa_cons (pe_ix ix_list (pv 1) (pv 5) (fun _ _ => rfl)) (pa_cons (pe_ix ix_list (pv 0) (pv 5) (fun _ _ => rfl)) pa_nil)))) (pe_call (ok__law_choose T) (hr.mono (by decide)) (by rfl) T.m__law_choose T.F__law_choose.kp T.B__law_choose .nil pass0 (pa_cons (pe_ix ix_list (pv 3) (pv 5) (fun _ _ => rfl)) (pa_cons (pe_ix ix_list (pv 2) (pv 5) (fun _ _ => rfl)) pa_nil)))))
      (pss_one (ps_for PassesOwn.never rfl (pi_range1 (by rfl) T.n_range (pa_cons (pe_op op_sub (pe_ix ix_list (pv 3) (pv 5) (fun _ _ => rfl)) (pe_ix ix_list (pv 2) (pv 5) (fun _ _ => rfl))) pa_nil)) (pg_name (i := 6) sc__law_ways.nd rfl (by first | exact Or.inl rfl | exact Or.inr rfl)) (pss_one (ps_set (i := 4) sc__law_ways.nd rfl (by first | exact Or.inl rfl | exact Or.inr rfl) (pe_op op_mul (pv 4) (pe_op op_add (pv 5) pe_int))))))))
      (pss_one (ps_ret (pv 4))))), ?_⟩
    obtain ⟨a1, rfl, g1⟩ := of_rwL h1
    obtain ⟨a2, rfl, g2⟩ := of_rwL h2
    obtain ⟨a3, rfl, g3⟩ := of_rwL h3
    obtain ⟨a4, rfl, g4⟩ := of_rwL h4
    have ll1 := le1.len
    have ll2 := le2.len
    refine ⟨_, rfl, a2, _, rfl, .inl (SqL.of g2), _, rfl, by rw [List.length_map]; omega, by rw [List.length_map]; omega, ?_⟩
    rw [List.length_map, Int.toNat_natCast]
    refine for_range (lo := 0) (n := hh.length) (fun i σ H2 => (∃ v5 v6, σ = [some (.ref a1), some (.ref a2), some (.ref a3), some (.ref a4), some (.int (wysG 1 (kp.take i) (hh.take i) (ff.take i) (fr.take i))), v5, v6]) ∧ H2 = H) ⟨⟨none, none, rfl⟩, rfl⟩ ?_ ?_
    · rintro i σ H2 hi ⟨⟨v5, v6, rfl⟩, rfl⟩
      rw [Int.zero_add]
      obtain ⟨x0, x1, x2, x3, x4⟩ := ch_at le1 s5 (i := i) (by omega)
      obtain ⟨y0, y1, y2, y3, y4⟩ := ch_at le2 f5 (i := i) (by omega)
      rw [wys_take (by omega) ll1 e12 (by omega)]
      generalize wysG 1 (kp.take i) (hh.take i) (ff.take i) (fr.take i) = W
      refine ⟨_, rfl, _, rfl, _, rfl, a2, _, _, _, rfl, rfl, SqL.of g2, vI_at hi, _, rfl, _, rfl, a1, _, _, _, rfl, rfl, SqL.of g1, vI_at (by omega), hh.getD i 0, (kp.getD i 0).toNat, ?_, by omega, by omega, ?_⟩
      · rw [show (((kp.getD i 0).toNat : Nat) : Int) = kp.getD i 0 by omega]
        rfl
      refine ⟨_, _, rfl, rfl, .inr ⟨by omega, by omega⟩, _, rfl, _, rfl, a4, _, _, _, rfl, rfl, SqL.of g4, vI_at (by omega), _, rfl, _, rfl, a3, _, _, _, rfl, rfl, SqL.of g3, vI_at (by omega), fr.getD i 0, (ff.getD i 0).toNat, ?_, by omega, by omega, ?_⟩
      · rw [show (((ff.getD i 0).toNat : Nat) : Int) = ff.getD i 0 by omega]
        rfl
      refine ⟨_, _, rfl, rfl, .inr ⟨by omega, by omega⟩, ?_⟩
      refine ⟨_, rfl, _, rfl, a4, _, _, _, rfl, rfl, SqL.of g4, vI_at (by omega), _, rfl, _, rfl, a3, _, _, _, rfl, rfl, SqL.of g3, vI_at (by omega), _, _, rfl, rfl, _, rfl, by omega, by omega, ?_⟩
      refine for_range (lo := 0) (n := (fr.getD i 0 - ff.getD i 0).toNat) (fun m σ H3 => (∃ v6, σ = [some (.ref a1), some (.ref a2), some (.ref a3), some (.ref a4), some (.int (W * chF (hh.getD i 0) (kp.getD i 0).toNat * chF (fr.getD i 0) (ff.getD i 0).toNat * (1 + (i : Int)) ^ m)), some (.int i), v6]) ∧ H3 = H2) ⟨⟨v6, by rw [Int.pow_zero, Int.mul_one]; rfl⟩, rfl⟩ ?_ ?_
      · rintro m σ H3 hm ⟨⟨v6, rfl⟩, rfl⟩
        refine ⟨_, rfl, _, rfl, _, _, rfl, rfl, _, _, rfl, rfl, .inr ⟨by omega, by omega⟩, ⟨some (.int (0 + (m : Int))), ?_⟩, rfl⟩
        rw [Int.pow_succ, ← Int.mul_assoc, Int.add_comm 1 (i : Int)]
        rfl
      · rintro σ H3 ⟨⟨v6, rfl⟩, rfl⟩
        refine ⟨⟨some (.int i), v6, ?_⟩, rfl⟩
        rw [← Int.mul_assoc, ← Int.mul_assoc]
    · rintro σ H2 ⟨⟨v5, v6, rfl⟩, rfl⟩
      rw [List.take_length, ← ll1, List.take_length, e12, List.take_length, ll2, List.take_length]
      exact ⟨_, rfl, kk⟩
theorem perm_sum {xs ys : List Int} (h : xs.Perm ys) : xs.sum = ys.sum := by
  induction h with
  | nil => rfl
  | cons x _ ih => rw [List.sum_cons, List.sum_cons, ih]
  | swap x y l => rw [List.sum_cons, List.sum_cons, List.sum_cons, List.sum_cons]; omega
  | trans _ _ ih1 ih2 => rw [ih1, ih2]
theorem sum_flat {α : Type} {f : α → List Int} : ∀ {xs : List α}, (xs.flatMap f).sum = (xs.map fun x => (f x).sum).sum
  | [] => rfl
  | x :: xs => by rw [List.flatMap_cons, List.sum_append, List.map_cons, List.sum_cons, sum_flat]
def inF (q : Ask4) (kp fr : List Int) : Int := if q.k + fr.sum - q.f.sum - q.d + 1 ≥ 0 then wysG 1 kp q.h q.f fr * cF ⟨q.d - 1, q.k + fr.sum - q.f.sum - q.d + 1, kp, fr⟩ else 0
def ouF (q : Ask4) (kp : List Int) : Int := if q.d - 1 - wtF kp - wtF q.f ≥ 0 then ((laF q.f (q.d - 1 - wtF kp - wtF q.f).toNat).map (inF q kp)).sum else 0
theorem ou_eq {L : Nat} {q : Ask4} (a : AskOk L q) (d2 : 2 ≤ q.d) {kp : List Int} (hk : kp ∈ rwF q.h) : ouF q kp = ((few1 q kp).map gS).sum := by
  have l1 := rw_mem a.hn hk
  have w1 := wtG_nn (i := 1) (by decide) (Le.nn l1).1
  have w2 := wtG_nn (i := 1) (by decide) a.fn
  have L5 := a.L5
  have dL := a.dL
  have wq := a.wt
  have w3 := wtG_nn (i := 1) (by decide) a.hn
  unfold ouF few1
  split
  · next h =>
    have hp := la_perm (s := (q.d - 1 - wtF kp - wtF q.f).toNat) L5 a.fl a.fn (by unfold wtF at *; omega) (by unfold wtF at *; omega)
    rw [show wtF q.f + (((q.d - 1 - wtF kp - wtF q.f).toNat : Nat) : Int) = q.d - 1 - wtF kp by omega] at hp
    rw [perm_sum (hp.map (inF q kp)), List.map_map]
    refine congrArg List.sum (List.map_congr_left fun fr hf => ?_)
    obtain ⟨f1, f2, f3, f4, f5⟩ := a.few d2 hk hf
    show inF q kp fr = gS (few2 q kp fr)
    unfold inF gS few2
    show _ = chsF q.h kp * chsF fr q.f * prdF (wgG 1 q.f fr) * cF ⟨q.d - 1, q.k + fr.sum - q.f.sum - q.d + 1, kp, fr⟩
    rw [← wys_eq f3 f4 (by have := f3.len; rw [this, a.hl, a.fl])]
    split
    · rfl
    · next hk' => rw [cF_neg (show q.k + fr.sum - q.f.sum - q.d + 1 < 0 by omega), Int.mul_zero]
  · next h =>
    have e : rbF 8 q.f (q.d - 1 - wtF kp) 0 = [] := by
      unfold rbF
      rw [if_neg (by omega), show (q.d - 1 - wtF kp - wtF q.f).toNat = 0 by omega]
      simp
    rw [e]
    rfl
theorem cut_pad {d : Nat} {k : Int} {kp fr : List Int} (a : AskOk (d + 1) ⟨(d : Int), k, kp, fr⟩) : ∃ s u, kp = s ++ [0] ∧ fr = u ++ [0] ∧ AskOk d ⟨(d : Int), k, s, u⟩ ∧ cF ⟨(d : Int), k, kp, fr⟩ = cF ⟨(d : Int), k, s, u⟩ := by
  have w1 : 0 ≤ wtG 1 kp := wtG_nn (i := 1) (by decide) a.hn
  have w2 : 0 ≤ wtG 1 fr := wtG_nn (i := 1) (by decide) a.fn
  have L5 := a.L5
  have w : wtF kp + wtF fr = (d : Int) := a.wt
  obtain ⟨s, e1, s1, s2, s3⟩ := last0 (t := kp) a.hl a.hn (by unfold wtF at *; omega)
  obtain ⟨u, e2, u1, u2, u3⟩ := last0 (t := fr) a.fl a.fn (by unfold wtF at *; omega)
  have b : AskOk d ⟨(d : Int), k, s, u⟩ := ⟨s1, u1, s2, u2, by show wtF s + wtF u = (d : Int); rw [s3, u3]; exact w, a.d1, Int.le_refl _, by omega, a.k6⟩
  refine ⟨s, u, e1, e2, b, ?_⟩
  rw [e1, e2]
  exact cnt_pad b
theorem ok__law_by_floor : FnOk P w K mg base CX0 55 T.f__law_by_floor T.d__law_by_floor ["_law_d", "_law_k", "_law_held", "_law_free"] (spLBy fewF) := by
  refine T.F__law_by_floor.ok sc__law_by_floor (fun vs H Q E h => ?_) (fun cdv A outer s H vs Q E hr h => ?_)
  · obtain ⟨_, _, _, _, _, _, rfl, _⟩ := h
    rfl
  · obtain ⟨d, k, v1, v2, hh, ff, rfl, hv1, hv2, hw, aq, d2, kk⟩ := h
    refine ⟨_, (pss_cons (ps_set (i := 4) sc__law_by_floor.nd rfl (by first | exact Or.inl rfl | exact Or.inr rfl) pe_int)
      (pss_cons (ps_for PassesOwn.never rfl (pi_list (pe_call (ok__law_within T) (hr.mono (by decide)) (by rfl) T.m__law_within T.F__law_within.kp T.B__law_within .nil pass0 (pa_cons (pv 2) pa_nil))) (pg_name (i := 5) sc__law_by_floor.nd rfl (by first | exact Or.inl rfl | exact Or.inr rfl)) (pss_cons (ps_set (i := 6) sc__law_by_floor.nd rfl (by first | exact Or.inl rfl | exact Or.inr rfl) (pe_op op_sub (pe_op op_sub (pe_op op_sub (pv 0) pe_int) (pe_call (ok__law_weight T) (hr.mono (by decide)) (by rfl) T.m__law_weight T.F__law_weight.kp T.B__law_weight .nil pass0 (pa_cons (pv 5) pa_nil))) (pe_call (ok__law_weight T) (hr.mono (by decide)) (by rfl) T.m__law_weight T.F__law_weight.kp T.B__law_weight .nil pass0 (pa_cons (pv 3) pa_nil))))
      (pss_one (ps_if (pt_cmpR op_ge (pv 6) pe_int (nomark _)) (pss_one (ps_for PassesOwn.never rfl (pi_list (pe_call (ok__law_above T) (hr.mono (by decide)) (by rfl) T.m__law_above T.F__law_above.kp T.B__law_above .nil pass0 (pa_cons (pv 3) (pa_cons (pv 6) pa_nil)))) (pg_name (i := 7) sc__law_by_floor.nd rfl (by first | exact Or.inl rfl | exact Or.inr rfl)) (pss_cons (ps_set (i := 8) sc__law_by_floor.nd rfl (by first | exact Or.inl rfl | exact Or.inr rfl) (pe_op op_add (pe_op op_sub (pe_op op_sub (pe_op op_add (pv 1) (pe_callB (call_sum rfl) (by rfl) T.n_sum boot_sum (pa_cons (pv 7) pa_nil))) (pe_callB (call_sum rfl) (by rfl) T.n_sum boot_sum (pa_cons (pv 3) pa_nil))) (pv 0)) pe_int))
      (pss_one (ps_if (pt_cmpR op_ge (pv 8) pe_int (nomark _)) (pss_cons (ps_set (i := 9) sc__law_by_floor.nd rfl (by first | exact Or.inl rfl | exact Or.inr rfl) (pe_call (ok_by_ends T) (hr.mono (by decide)) (by rfl) T.m_by_ends T.F_by_ends.kp T.B_by_ends .nil pass0 (pa_cons (pe_op op_sub (pv 0) pe_int) (pa_cons (pv 8) (pa_cons (pe_call (ok__law_trimmed T) (hr.mono (by decide)) (by rfl) T.m__law_trimmed T.F__law_trimmed.kp T.B__law_trimmed .nil pass0 (pa_cons (pv 5) pa_nil)) (pa_cons (pe_call (ok__law_trimmed T) (hr.mono (by decide)) (by rfl) T.m__law_trimmed T.F__law_trimmed.kp T.B__law_trimmed .nil pass0 (pa_cons (pv 7) pa_nil)) pa_nil))))))
      (pss_one (ps_set (i := 4) sc__law_by_floor.nd rfl (by first | exact Or.inl rfl | exact Or.inr rfl) (pe_op op_add (pv 4) (pe_op op_mul (pe_call (ok__law_ways T) (hr.mono (by decide)) (by rfl) T.m__law_ways T.F__law_ways.kp T.B__law_ways .nil pass0 (pa_cons (pv 5) (pa_cons (pv 2) (pa_cons (pv 3) (pa_cons (pv 7) pa_nil))))) (pv 9)))))) pss_nil))))) pss_nil))))
      (pss_one (ps_ret (pv 4))))), ?_⟩
    have hl : hh.length = d := aq.hl
    have fl : ff.length = d := aq.fl
    have d5 := aq.L5
    have sm := aq.sums
    have wq : wtF hh + wtF ff = (d : Int) := aq.wt
    have wf : 0 ≤ wtG 1 ff := wtG_nn (i := 1) (by decide) aq.fn
    have wh0 : 0 ≤ wtG 1 hh := wtG_nn (i := 1) (by decide) aq.hn
    have qd2 : 2 ≤ (⟨d, k, hh, ff⟩ : Ask4).d := by show (2 : Int) ≤ (d : Int); omega
    have tot : ((fewF ⟨d, k, hh, ff⟩).map gS).sum = ((rwF hh).map (ouF ⟨d, k, hh, ff⟩)).sum := by
      unfold fewF
      rw [List.map_flatMap, sum_flat]
      exact congrArg List.sum (List.map_congr_left fun kp hk => (ou_eq aq qd2 hk).symm)
    rw [tot] at kk
    clear tot
    refine ⟨_, rfl, v1, hh, rfl, hv1, aq.hn, sm.2.1, by omega, fun kl H1 s1 nkl hkl => ?_⟩
    obtain ⟨_, kvs, e, hkl1, hki⟩ := of_l hkl
    cases e
    have hkl1 : H1 kl = some (.lst kvs) := nw_same _ _ hkl1
    have hki : Iss H1 ((rwF hh).map rwL) kvs := hki.mono nw_same
    have klen : kvs.length = (rwF hh).length := by rw [hki.length, List.length_map]
    refine ⟨kl, rfl, ⟨_, SqL.of hkl1⟩, for_list (xs := kvs) (fun i σ H2 => (∃ v5 v6 v7 v8 v9, σ = [some (.int d), some (.int k), some v1, some v2, some (.int ((((rwF hh).take i).map (ouF ⟨d, k, hh, ff⟩)).sum)), v5, v6, v7, v8, v9]) ∧ Same H1 H2) ⟨⟨none, none, none, none, none, rfl⟩, Same.refl _⟩ (fun i σ H2 _ h => SqL.of (h.2 _ _ hkl1)) ?_ ?_⟩
    · rintro i y σ H2 hi ⟨⟨v5, v6, v7, v8, v9, rfl⟩, s2⟩
      obtain ⟨dd, hdd, hy⟩ := hki.of_get hi
      rw [List.getElem?_map] at hdd
      obtain ⟨kp, hkp, rfl⟩ := Option.map_eq_some_iff.mp hdd
      have kmem := List.mem_of_getElem? hkp
      have lk := rw_mem aq.hn kmem
      have lkl : kp.length = d := lk.len.trans hl
      have wk0 := wtG_nn (i := 1) (by decide) (Le.nn lk).1
      have nx : (((rwF hh).take (i + 1)).map (ouF ⟨d, k, hh, ff⟩)).sum = (((rwF hh).take i).map (ouF ⟨d, k, hh, ff⟩)).sum + ouF ⟨d, k, hh, ff⟩ kp := by
        rw [List.take_add_one, hkp, List.map_append, List.sum_append]
        simp
      rw [nx]
      generalize (((rwF hh).take i).map (ouF ⟨d, k, hh, ff⟩)).sum = tot
      have s02 := s1.trans s2
      have hy2 := hy.mono s2
      refine ⟨_, rfl, _, _, rfl, rfl, _, rfl, y, kp, rfl, hy2, by omega, fun H3 s3 => ⟨_, _, rfl, rfl, _, rfl, v2, ff, rfl, (hv2.mono s02).mono s3, by omega, fun H4 s4 => ⟨_, _, rfl, rfl, ?_⟩⟩⟩
      have s24 := s3.trans s4
      have s04 := s02.trans s24
      refine ⟨_, rfl, _, _, rfl, rfl, _, rfl, iteD (fun hs => ?_) (fun hs => ?_)⟩
      · have hs : (d : Int) - 1 - wtF kp - wtF ff ≥ 0 := hs
        have eo : ouF ⟨d, k, hh, ff⟩ kp = ((laF ff ((d : Int) - 1 - wtF kp - wtF ff).toNat).map (inF ⟨d, k, hh, ff⟩ kp)).sum := if_pos hs
        rw [eo]
        have hp := la_perm (f := ff) (s := ((d : Int) - 1 - wtF kp - wtF ff).toNat) d5 fl aq.fn (by unfold wtF at *; omega) (by unfold wtF at *; omega)
        rw [show wtF ff + ((((d : Int) - 1 - wtF kp - wtF ff).toNat : Nat) : Int) = (d : Int) - 1 - wtF kp by omega] at hp
        have few : ∀ fr ∈ laF ff ((d : Int) - 1 - wtF kp - wtF ff).toNat, AskOk d ⟨(d : Int) - 1, (k : Int) + fr.sum - ff.sum - (d : Int) + 1, kp, fr⟩ ∧ 6 * ((d : Int) - 1) + fr.sum + 1 ≤ muF ⟨d, k, hh, ff⟩ ∧ Le kp hh ∧ Le ff fr ∧ fr.sum ≤ 5 := fun fr hf => aq.few qd2 kmem (hp.mem_iff.mp hf)
        clear hp
        generalize hsp : ((d : Int) - 1 - wtF kp - wtF ff).toNat = sp at few eo
        refine ⟨_, rfl, _, rfl, v2, ff, sp, ?_, hv2.mono s04, by omega, by unfold wtF at *; omega, fun al H5 s5 nal hal => ?_⟩
        · show [v2, V.int ((d : Int) - 1 - wtF kp - wtF ff)] = [v2, V.int (sp : Int)]
          rw [show ((d : Int) - 1 - wtF kp - wtF ff) = (sp : Int) by omega]
        obtain ⟨_, avs, e, hal5, hai⟩ := of_l hal
        cases e
        have hal5 : H5 al = some (.lst avs) := nw_same _ _ hal5
        have hai : Iss H5 ((laF ff sp).map rwL) avs := hai.mono nw_same
        have alen : avs.length = (laF ff sp).length := by rw [hai.length, List.length_map]
        generalize laF ff sp = O at few hai alen
        refine ⟨al, rfl, ⟨_, SqL.of hal5⟩, for_list (xs := avs) (fun j σ H6 => (∃ v6 v7 v8 v9, σ = [some (.int d), some (.int k), some v1, some v2, some (.int (tot + ((O.take j).map (inF ⟨d, k, hh, ff⟩ kp)).sum)), some y, v6, v7, v8, v9]) ∧ Same H5 H6) ⟨⟨_, _, _, _, by show _ = [_, _, _, _, some (V.int (tot + 0)), _, _, _, _, _]; rw [Int.add_zero]; rfl⟩, Same.refl _⟩ (fun j σ H6 _ h => SqL.of (h.2 _ _ hal5)) ?_ ?_⟩
        · rintro j b σ H6 hj ⟨⟨v6, v7, v8, v9, rfl⟩, s6⟩
          obtain ⟨dd, hdd, hb⟩ := hai.of_get hj
          rw [List.getElem?_map] at hdd
          obtain ⟨fr, hfr, rfl⟩ := Option.map_eq_some_iff.mp hdd
          obtain ⟨f1, f2, f3, f4, f5⟩ := few fr (List.mem_of_getElem? hfr)
          have s06 := s04.trans (s5.trans s6)
          have hb6 := hb.mono s6
          have hy6 := hy2.mono (s24.trans (s5.trans s6))
          obtain ⟨ba, rfl, hba⟩ := of_rwL hb6
          obtain ⟨fa, rfl, hfa⟩ := of_rwL hv2
          have nx2 : ((O.take (j + 1)).map (inF ⟨d, k, hh, ff⟩ kp)).sum = ((O.take j).map (inF ⟨d, k, hh, ff⟩ kp)).sum + inF ⟨d, k, hh, ff⟩ kp fr := by
            rw [List.take_add_one, hfr, List.map_append, List.sum_append]
            simp
          rw [nx2, ← Int.add_assoc]
          generalize tot + ((O.take j).map (inF ⟨d, k, hh, ff⟩ kp)).sum = to2
          refine ⟨_, rfl, _, rfl, ba, fr, rfl, SqL.of hba, _, _, rfl, rfl, _, rfl, fa, ff, rfl, SqL.of (s06 _ _ hfa), _, _, rfl, rfl, _, rfl, _, _, rfl, rfl, _, _, rfl, rfl, ?_⟩
          refine ⟨_, rfl, _, _, rfl, rfl, _, rfl, iteD (fun hg => ?_) (fun hg => ?_)⟩
          · have hg : (k : Int) + fr.sum - ff.sum - (d : Int) + 1 ≥ 0 := hg
            have ei : inF ⟨d, k, hh, ff⟩ kp fr = wysG 1 kp hh ff fr * cF ⟨(d : Int) - 1, (k : Int) + fr.sum - ff.sum - (d : Int) + 1, kp, fr⟩ := if_pos hg
            rw [ei]
            obtain ⟨n, rfl⟩ : ∃ n, d = n + 1 := ⟨d - 1, by omega⟩
            obtain ⟨m, hm⟩ := Int.eq_ofNat_of_zero_le hg
            have ed : ((n + 1 : Nat) : Int) - 1 = (n : Int) := by omega
            have k6 : m ≤ 6 := by
              have := f1.k6
              have : (k : Int) + fr.sum - ff.sum - ((n + 1 : Nat) : Int) + 1 ≤ 6 := this
              omega
            rw [hm, ed] at f1 ⊢
            obtain ⟨su, uu, e1, e2, b1, b2⟩ := cut_pad f1
            have n5 : n ≤ 5 := by omega
            have hwn : Wide n m := by unfold Wide at hw ⊢; omega
            obtain ⟨r1, r2, r3, r4⟩ := tr_row b1.hl b1.hn n5
            obtain ⟨q1, q2, q3, q4⟩ := tr_row b1.fl b1.fn n5
            have t1 : trF kp = trF su := by rw [e1, tr_snoc0]
            have t2 : trF fr = trF uu := by rw [e2, tr_snoc0]
            have wy := wys_eq (i := 1) f3 f4 (by omega)
            have c1 := chs_32 f3 sm.2.1
            have c2 := chs_32 f4 f5
            have g1 := wg_mem (k := 1) f4
            have g2 := wg_len (k := 1) f4
            obtain ⟨p0, p1⟩ := prd_bnd (ws := wgG 1 ff fr) fun w' hw' => by have := g1 w' hw'; omega
            have gl5 : (wgG 1 ff fr).length ≤ 5 := by
              have : 0 ≤ ff.sum := sm.2.2.1
              omega
            have p2 : (5 : Int) ^ (wgG 1 ff fr).length ≤ 3125 := by
              have : (wgG 1 ff fr).length = 0 ∨ (wgG 1 ff fr).length = 1 ∨ (wgG 1 ff fr).length = 2 ∨ (wgG 1 ff fr).length = 3 ∨ (wgG 1 ff fr).length = 4 ∨ (wgG 1 ff fr).length = 5 := by omega
              rcases this with e | e | e | e | e | e <;> rw [e] <;> decide
            have m0 := Int.mul_nonneg c1.1 c2.1
            have m1 := Int.mul_le_mul c1.2 c2.2 c2.1 (by decide)
            have m2 := Int.mul_nonneg m0 p0
            have m3 := Int.mul_le_mul m1 (Int.le_trans p1 p2) p0 (by decide)
            rw [← wy] at m2 m3
            refine ⟨_, rfl, _, _, rfl, rfl, _, rfl, _, rfl, _, kp, rfl, hy6, by omega, fun l7 H7 s7 n7 h7 => ?_⟩
            refine ⟨_, rfl, .ref ba, fr, rfl, hb6.mono s7, by have := f4.len; omega, fun l8 H8 s8 n8 h8 => ?_⟩
            rw [t1] at h7
            rw [t2] at h8
            dsimp only
            rw [hm, ed]
            refine ⟨n, m, .ref l7, .ref l8, _, _, rfl, hwn, h7.mono s8, h8, r1, q1, by rw [r4, q4]; exact b1.wt, r2, q2, fun H9 s9 => ?_⟩
            have r3 : padT n (trF su) = su := r3
            have q3 : padT n (trF uu) = uu := q3
            rw [r3, q3, ← b2]
            have s69 := (s7.trans s8).trans s9
            refine ⟨_, rfl, _, rfl, _, rfl, _, rfl, _, rfl, _, v1, .ref fa, .ref ba, kp, hh, ff, fr, rfl, hy6.mono s69, (hv1.mono s06).mono s69, (hv2.mono s06).mono s69, hb6.mono s69, f3, f4, by omega, by omega, sm.2.1, f5, ?_⟩
            exact ⟨_, rfl, _, _, rfl, rfl, .inl ⟨by omega, by omega⟩, _, _, rfl, rfl, ⟨_, _, _, _, rfl⟩, s6.trans s69⟩
          · have hg : ¬ (k : Int) + fr.sum - ff.sum - (d : Int) + 1 ≥ 0 := hg
            have ei : inF ⟨d, k, hh, ff⟩ kp fr = 0 := if_neg hg
            rw [ei, Int.add_zero]
            exact ⟨⟨_, _, _, _, rfl⟩, s6⟩
        · rintro σ H6 ⟨⟨v6, v7, v8, v9, rfl⟩, s6⟩
          rw [alen, List.take_length]
          exact ⟨⟨_, _, _, _, _, rfl⟩, (s2.trans s24).trans (s5.trans s6)⟩
      · have hs : ¬ (d : Int) - 1 - wtF kp - wtF ff ≥ 0 := hs
        have eo : ouF ⟨d, k, hh, ff⟩ kp = 0 := if_neg hs
        rw [eo, Int.add_zero]
        exact ⟨⟨_, _, _, _, _, rfl⟩, s2.trans s24⟩
    · rintro σ H2 ⟨⟨v5, v6, v7, v8, v9, rfl⟩, s2⟩
      rw [klen, List.take_length]
      exact ⟨_, rfl, kk H2 (s1.trans s2)⟩
theorem eqr_rows {H : Hp} {a b : List Int} {v u : V} (h : Is H (.l [rwL a, rwL b]) v) (k : Is H (.l [rwL a, rwL b]) u) : EqR K H 2 v u true := by
  have kin : ∀ t : List Int, Kins (t.map D.i) (t.map D.i) := fun t => by
    induction t with
    | nil => exact trivial
    | cons x t ih => exact ⟨trivial, ih⟩
  have dp : ∀ t : List Int, deps (t.map D.i) = 0 := fun t => by
    induction t with
    | nil => rfl
    | cons x t ih =>
      rw [List.map_cons]
      unfold deps dep
      omega
  have e := h.eqr (K := K) (n := 2) (by simp [rwL, dep, deps, dp]) (by simp [rwL, Kin, Kins, kin]) k
  rwa [eqD_self] at e
def spLOne (_ : PySem.W.Frag) : Sp := fun vs H Q _ => ∃ (x : Int) (m : Nat), vs = [.int x, .int m] ∧ 1 ≤ m ∧ m ≤ 5 ∧ ∀ H', Same H H' → Q (.bl true) H'
theorem ok__law_one : FnOk P w K mg base CX0 56 T.f__law_one T.d__law_one ["_law_cell", "_law_most"] (spLOne K) := by
  refine T.F__law_one.ok sc__law_one (fun vs H Q E h => ?_) (fun cdv A outer s H vs Q E hr h => ?_)
  · obtain ⟨_, _, rfl, _⟩ := h
    rfl
  · obtain ⟨x, mo, rfl, mo1, mo5, kk⟩ := h
    refine ⟨_, (pss_cons (ps_set (i := 2) sc__law_one.nd rfl (by first | exact Or.inl rfl | exact Or.inr rfl) (pe_lstN (pa_cons (pe_call (ok__law_great T) (hr.mono (by decide)) (by rfl) T.m__law_great T.F__law_great.kp T.B__law_great .nil pass0 (pa_cons (pv 0) pa_nil)) pa_nil)))
      (pss_cons (ps_set (i := 3) sc__law_one.nd rfl (by first | exact Or.inl rfl | exact Or.inr rfl) (pe_op op_add pe_int (pe_call (ok__law_digit T) (hr.mono (by decide)) (by rfl) T.m__law_digit T.F__law_digit.kp T.B__law_digit .nil pass0 (pa_cons (pv 2) (pa_cons (pv 1) pa_nil)))))
      (pss_cons (ps_set (i := 4) sc__law_one.nd rfl (by first | exact Or.inl rfl | exact Or.inr rfl) (pe_call (ok__law_digit T) (hr.mono (by decide)) (by rfl) T.m__law_digit T.F__law_digit.kp T.B__law_digit .nil pass0 (pa_cons (pv 2) (pa_cons (pe_ix ix_list (pe_lstN (pa_cons pe_int (pa_cons pe_int (pa_cons pe_int (pa_cons pe_int (pa_cons pe_int pa_nil)))))) (pe_op op_sub (pv 3) pe_int) (fun _ _ => rfl)) pa_nil))))
      (pss_cons (ps_asg (pe_call (ok__law_rows T) (hr.mono (by decide)) (by rfl) T.m__law_rows T.F__law_rows.kp T.B__law_rows .nil pass0 (pa_cons (pv 2) (pa_cons (pv 3) pa_nil))) (pg_tup rfl (pgs_cons (pg_name (i := 5) sc__law_one.nd rfl (by first | exact Or.inl rfl | exact Or.inr rfl)) (pgs_cons (pg_name (i := 6) sc__law_one.nd rfl (by first | exact Or.inl rfl | exact Or.inr rfl)) pgs_nil))))
      (pss_cons (ps_set (i := 7) sc__law_one.nd rfl (by first | exact Or.inl rfl | exact Or.inr rfl) (pe_lstN (pa_cons (pe_call (ok__law_trimmed T) (hr.mono (by decide)) (by rfl) T.m__law_trimmed T.F__law_trimmed.kp T.B__law_trimmed .nil pass0 (pa_cons (pv 5) pa_nil)) (pa_cons (pe_call (ok__law_trimmed T) (hr.mono (by decide)) (by rfl) T.m__law_trimmed T.F__law_trimmed.kp T.B__law_trimmed .nil pass0 (pa_cons (pv 6) pa_nil)) pa_nil))))
      (pss_cons (ps_set (i := 8) sc__law_one.nd rfl (by first | exact Or.inl rfl | exact Or.inr rfl) (pe_call (ok_by_ends T) (hr.mono (by decide)) (by rfl) T.m_by_ends T.F_by_ends.kp T.B_by_ends .nil pass0 (pa_cons (pv 3) (pa_cons (pv 4) (pa_cons (pe_ix ix_listN (pv 7) pe_int (fun _ _ => rfl)) (pa_cons (pe_ix ix_listN (pv 7) pe_int (fun _ _ => rfl)) pa_nil))))))
      (pss_cons (ps_if (pw_or (pt_not (pt_val (pe_callB call_isi (by rfl) T.n_isinstance boot_isinstance (pa_cons (pv 8) (pa_cons (pe_bltn (v := .ty "int") (by rfl) T.n_int boot_int (by rfl)) pa_nil))))) (pw_or1 (pt_val (pe_callB call_isi (by rfl) T.n_isinstance boot_isinstance (pa_cons (pv 8) (pa_cons (pe_bltn (v := .ty "bool") (by rfl) T.n_bool boot_bool (by rfl)) pa_nil)))))).pt (pss_one (ps_ret pe_bl)) pss_nil)
      (pss_cons (ps_if (pt_cmpR (op_neS hr) (pv 7) (pe_lstN (pa_cons (pe_call (ok__law_trimmed T) (hr.mono (by decide)) (by rfl) T.m__law_trimmed T.F__law_trimmed.kp T.B__law_trimmed .nil pass0 (pa_cons (pv 5) pa_nil)) (pa_cons (pe_call (ok__law_trimmed T) (hr.mono (by decide)) (by rfl) T.m__law_trimmed T.F__law_trimmed.kp T.B__law_trimmed .nil pass0 (pa_cons (pv 6) pa_nil)) pa_nil))) (nomark _)) (pss_one (ps_ret pe_bl)) pss_nil)
      (pss_cons (ps_if (pt_cmpR op_eq (pv 3) pe_int (nomark _)) (pss_one (ps_ret (pe_cmpR op_eq (pv 8) (pe_callTy call_int1 (by rfl) T.n_int boot_int (pa_cons (pe_cmpR op_eq (pv 4) pe_int (nomark _)) pa_nil)) (nomark _)))) pss_nil)
      (pss_one (ps_ret (pe_cmpR op_eq (pv 8) (pe_op op_add (pe_call (ok__law_by_held T) (hr.mono (by decide)) (by rfl) T.m__law_by_held T.F__law_by_held.kp T.B__law_by_held .nil pass0 (pa_cons (pv 3) (pa_cons (pv 4) (pa_cons (pv 5) (pa_cons (pv 6) pa_nil))))) (pe_call (ok__law_by_floor T) (hr.mono (by decide)) (by rfl) T.m__law_by_floor T.F__law_by_floor.kp T.B__law_by_floor .nil pass0 (pa_cons (pv 3) (pa_cons (pv 4) (pa_cons (pv 5) (pa_cons (pv 6) pa_nil)))))) (nomark _))))))))))))), ?_⟩
    refine ⟨_, rfl, x, rfl, fun z z0 => ⟨(by show 1 ≤ sizeLine; decide), fun b H1 nb s1 hb1 => ?_⟩⟩
    refine ⟨_, rfl, _, rfl, b, mo, z, rfl, hb1, z0, by omega, by omega, fun y z1 y0 ym z10 => ⟨_, _, rfl, rfl, ?_⟩⟩
    obtain ⟨d, hd⟩ := Int.eq_ofNat_of_zero_le (show 0 ≤ 1 + y by omega)
    have d1 : 1 ≤ d := by omega
    have d5 : d ≤ 5 := by omega
    dsimp only
    rw [hd]
    clear hd
    have but2 : But b H1 (upd H1 b (.lst [.int z1])) := fun c o e n => by rw [upd_ne n]; exact e
    have hb2 : upd H1 b (.lst [.int z1]) b = some (.lst [.int z1]) := upd_same
    generalize upd H1 b (.lst [.int z1]) = H2 at but2 hb2
    have b02 : Same H H2 := But.same s1 nb but2
    refine ⟨_, rfl, (by show 5 ≤ sizeLine; decide), fun ll H3 nll s3 hll => ?_⟩
    obtain ⟨m, hat, m1, m7, hwide⟩ : ∃ m : Nat, atI [V.int 7, V.int 7, V.int 7, V.int 7, V.int 4] ((d : Int) - 1) = some (.int m) ∧ 1 ≤ m ∧ m ≤ 7 ∧ ∀ k : Nat, k < m → Wide d k := by
      have : d = 1 ∨ d = 2 ∨ d = 3 ∨ d = 4 ∨ d = 5 := by omega
      unfold Wide
      rcases this with rfl | rfl | rfl | rfl | rfl
      · exact ⟨7, rfl, by decide, by decide, fun k hk => by omega⟩
      · exact ⟨7, rfl, by decide, by decide, fun k hk => by omega⟩
      · exact ⟨7, rfl, by decide, by decide, fun k hk => by omega⟩
      · exact ⟨7, rfl, by decide, by decide, fun k hk => by omega⟩
      · exact ⟨4, rfl, by decide, by decide, fun k hk => by omega⟩
    refine ⟨_, rfl, _, _, rfl, rfl, ll, _, _, _, rfl, rfl, SqL.of hll, hat, b, m, z1, rfl, s3 _ _ hb2, z10, by omega, by omega, fun k0 z2 k00 k0m z20 => ?_⟩
    obtain ⟨k, rfl⟩ := Int.eq_ofNat_of_zero_le k00
    have hw := hwide k (by omega)
    have but4 : But b H3 (upd H3 b (.lst [.int z2])) := fun c o e n => by rw [upd_ne n]; exact e
    have hb4 : upd H3 b (.lst [.int z2]) b = some (.lst [.int z2]) := upd_same
    generalize upd H3 b (.lst [.int z2]) = H4 at but4 hb4
    have b04 : Same H H4 := But.same (b02.trans s3) nb but4
    refine ⟨_, rfl, _, rfl, b, d, z2, rfl, hb4, z20, d1, d5, fun t l1 l2 hh ff H5 but5 nt nl1 nl2 l12 ht h1 h2 hl fl hn fn wt => ?_⟩
    have b05 : Same H H5 := But.same b04 nb but5
    have aq : AskOk d ⟨d, k, hh, ff⟩ := ⟨hl, fl, hn, fn, wt, by show (1 : Int) ≤ (d : Int); omega, Int.le_refl _, d5, by show (k : Int) ≤ 6; omega⟩
    obtain ⟨r1, r2, r3, r4⟩ := tr_row hl hn d5
    obtain ⟨q1, q2, q3, q4⟩ := tr_row fl fn d5
    refine ⟨t, _, rfl, SqT.of ht, rfl, _, _, rfl, _, _, rfl, rfl, ?_⟩
    have i1 : Is H5 (rwL hh) (.ref l1) := is_rwL h1
    have i2 : Is H5 (rwL ff) (.ref l2) := is_rwL h2
    refine ⟨_, rfl, .ref l1, hh, rfl, i1, by omega, fun t1 H6 s6 nt1 ht1 => ⟨_, rfl, .ref l2, ff, rfl, i2.mono s6, by omega, fun t2 H7 s7 nt2 ht2 => ⟨(by show 2 ≤ sizeLine; decide), fun hd H8 nhd s8 hhd => ?_⟩⟩⟩
    have s58 := (s6.trans s7).trans s8
    have ihd : Is H8 (.l [rwL (trF hh), rwL (trF ff)]) (.ref hd) := is_l hhd (iss_cons ((ht1.mono s7).mono s8) (iss_cons (ht2.mono s8) iss_nil))
    refine ⟨_, rfl, _, rfl, _, rfl, _, 0, _, ihd, rfl, rfl, fun u1 hu1 => ⟨_, rfl, _, 1, _, ihd, rfl, rfl, fun u2 hu2 => ?_⟩⟩
    refine ⟨d, k, u1, u2, _, _, rfl, hw, hu1, hu2, r1, q1, by rw [r4, q4]; exact wt, r2, q2, fun H9 s9 => ?_⟩
    rw [r3, q3]
    have s59 := s58.trans s9
    refine ⟨_, rfl, _, "int", _, true, rfl, .int _, kit_self, true, rfl, iteF ⟨_, rfl, _, "bool", _, false, rfl, .int _, rfl, false, rfl, iteF ?_⟩⟩
    refine ⟨_, rfl, _, rfl, .ref l1, hh, rfl, i1.mono s59, by omega, fun t3 H10 s10 nt3 ht3 => ⟨_, rfl, .ref l2, ff, rfl, (i2.mono s59).mono s10, by omega, fun t4 H11 s11 nt4 ht4 => ⟨(by show 2 ≤ sizeLine; decide), fun h2d H12 nh2 s12 hh2 => ?_⟩⟩⟩
    have s912 := (s10.trans s11).trans s12
    have ih2 : Is H12 (.l [rwL (trF hh), rwL (trF ff)]) (.ref h2d) := is_l hh2 (iss_cons ((ht3.mono s11).mono s12) (iss_cons (ht4.mono s12) iss_nil))
    refine ⟨2, true, eqr_rows ((ihd.mono s9).mono s912) ih2, by decide, _, rfl, iteF ?_⟩
    have s012 := b05.trans (s59.trans s912)
    refine ⟨_, rfl, rfl, _, rfl, iteE (fun e1 => ?_) (fun e1 => ?_)⟩
    · have e1 : (d : Int) = 1 := e1
      refine ⟨_, rfl, _, rfl, rfl, .inr ⟨_, rfl, rfl, ?_⟩⟩
      rw [cF_one (show ¬ (k : Int) < 0 by omega) e1]
      have : decide (V.int (if (k : Int) = 0 then (1 : Int) else 0) = V.int (if decide (V.int (k : Int) = V.int 0) = true then (1 : Int) else 0)) = true := by
        by_cases hk : (k : Int) = 0
        · simp [hk]
        · have : ¬ (V.int (k : Int) = V.int 0) := fun z => hk (V.int.inj z)
          rw [if_neg hk, if_neg (by simpa using this)]
          exact decide_eq_true rfl
      rw [this]
      exact kk H12 s012
    · have e1 : ¬ (d : Int) = 1 := e1
      have j1 := (i1.mono s59).mono s912
      have j2 := (i2.mono s59).mono s912
      refine ⟨_, rfl, _, rfl, _, rfl, _, rfl, _, rfl, d, k, .ref l1, .ref l2, hh, ff, rfl, j1, j2, hw, aq, by omega, fun H13 s13 => ?_⟩
      refine ⟨_, rfl, _, rfl, _, rfl, _, rfl, d, k, .ref l1, .ref l2, hh, ff, rfl, j1.mono s13, j2.mono s13, hw, aq, by omega, fun H14 s14 => ⟨_, _, rfl, rfl, rfl, ?_⟩⟩
      have et : cF ⟨d, k, hh, ff⟩ = ((heldF ⟨d, k, hh, ff⟩).map gS).sum + ((fewF ⟨d, k, hh, ff⟩).map gS).sum := by
        rw [cF_sum aq (show ¬ (k : Int) < 0 by omega) e1]
        unfold sumsF
        rw [List.map_append, List.sum_append]
        rfl
      rw [et, decide_eq_true rfl]
      exact kk H14 (s012.trans (s13.trans s14))
theorem ok_law : FnOk P w K mg base CX0 57 T.f_law T.d_law ["_law_script"] (sp_law K) := by
  refine T.F_law.ok sc_law (fun vs H Q E h => ?_) (fun cdv A outer s H vs Q E hr h => ?_)
  · obtain ⟨_, _, rfl, _⟩ := h
    rfl
  · obtain ⟨a, ns, rfl, hS, hl, kk⟩ := h
    refine ⟨_, (pss_cons (ps_for PassesOwn.never rfl (pi_range1 (by rfl) T.n_range (pa_cons (pe_callB (call_max2 rfl) (by rfl) T.n_max boot_max (pa_cons pe_int (pa_cons (pe_callB (call_min2 rfl) (by rfl) T.n_min boot_min (pa_cons (pe_callB call_len_seq (by rfl) T.n_len boot_len (pa_cons (pv 0) pa_nil)) (pa_cons pe_int pa_nil))) pa_nil))) pa_nil)) (pg_name (i := 1) sc_law.nd rfl (by first | exact Or.inl rfl | exact Or.inr rfl)) (pss_one (ps_if (pt_not (pt_val (pe_call (ok__law_one T) (hr.mono (by decide)) (by rfl) T.m__law_one T.F__law_one.kp T.B__law_one .nil pass0 (pa_cons (pe_call (ok__law_cell_at T) (hr.mono (by decide)) (by rfl) T.m__law_cell_at T.F__law_cell_at.kp T.B__law_cell_at .nil pass0 (pa_cons (pv 0) (pa_cons (pv 1) pa_nil))) (pa_cons (pe_ix ix_list (pe_lstN (pa_cons pe_int (pa_cons pe_int (pa_cons pe_int pa_nil)))) (pv 1) (fun _ _ => rfl)) pa_nil))))) (pss_one (ps_ret pe_bl)) pss_nil)))
      (pss_one (ps_ret pe_bl))), ?_⟩
    refine ⟨_, rfl, a, _, rfl, .inl hS, _, _, rfl, _, _, rfl, ?_⟩
    generalize hm : (if (if (3 : Int) < (((ns.map V.int).length : Nat) : Int) then (3 : Int) else (((ns.map V.int).length : Nat) : Int)) > 1 then (if (3 : Int) < (((ns.map V.int).length : Nat) : Int) then (3 : Int) else (((ns.map V.int).length : Nat) : Int)) else (1 : Int)) = mx
    have m3 : 1 ≤ mx ∧ mx ≤ 3 := by
      subst hm
      (repeat' split) <;> omega
    clear hm
    refine ⟨_, rfl, by omega, by omega, for_range (lo := 0) (n := mx.toNat) (fun i σ H2 => (∃ v1, σ = [some (.ref a), v1]) ∧ Same H H2) ⟨⟨none, rfl⟩, Same.refl _⟩ ?_ ?_⟩
    · rintro i σ H2 hi ⟨⟨v1, rfl⟩, s2⟩
      rw [Int.zero_add]
      refine ⟨_, rfl, _, rfl, a, ns, _, rfl, s2.seq hS, by omega, fun z => ?_⟩
      refine ⟨(by show 3 ≤ sizeLine; decide), fun l H3 nl s3 hl3 => ?_⟩
      obtain ⟨m, hat, m1, m5⟩ : ∃ m : Nat, atI [V.int 5, V.int 4, V.int 4] (i : Int) = some (.int m) ∧ 1 ≤ m ∧ m ≤ 5 := by
        have : i = 0 ∨ i = 1 ∨ i = 2 := by omega
        rcases this with rfl | rfl | rfl
        · exact ⟨5, rfl, by decide, by decide⟩
        · exact ⟨4, rfl, by decide, by decide⟩
        · exact ⟨4, rfl, by decide, by decide⟩
      exact ⟨_, rfl, l, _, _, _, rfl, rfl, SqL.of hl3, hat, z, m, rfl, m1, m5, fun H4 s4 => ⟨true, rfl, iteF ⟨⟨_, rfl⟩, (s2.trans s3).trans s4⟩⟩⟩
    · rintro σ H2 ⟨⟨v1, rfl⟩, s2⟩
      exact kk H2
end
theorem us1 {α : Type} {Q : List α → Prop} (h : ∀ x0, Q [x0]) : ∀ us : List α, us.length = 1 → Q us
  := by
  intro us hl
  rcases us with _ | ⟨x0, us⟩
  · simp at hl
  rcases us with _ | ⟨y, us⟩
  · exact h x0
  · simp at hl
theorem us2 {α : Type} {Q : List α → Prop} (h : ∀ x0 x1, Q [x0, x1]) : ∀ us : List α, us.length = 2 → Q us
  := by
  intro us hl
  rcases us with _ | ⟨x0, us⟩
  · simp at hl
  rcases us with _ | ⟨x1, us⟩
  · simp at hl
  rcases us with _ | ⟨y, us⟩
  · exact h x0 x1
  · simp at hl
theorem us3 {α : Type} {Q : List α → Prop} (h : ∀ x0 x1 x2, Q [x0, x1, x2]) : ∀ us : List α, us.length = 3 → Q us
  := by
  intro us hl
  rcases us with _ | ⟨x0, us⟩
  · simp at hl
  rcases us with _ | ⟨x1, us⟩
  · simp at hl
  rcases us with _ | ⟨x2, us⟩
  · simp at hl
  rcases us with _ | ⟨y, us⟩
  · exact h x0 x1 x2
  · simp at hl
theorem us4 {α : Type} {Q : List α → Prop} (h : ∀ x0 x1 x2 x3, Q [x0, x1, x2, x3]) : ∀ us : List α, us.length = 4 → Q us
  := by
  intro us hl
  rcases us with _ | ⟨x0, us⟩
  · simp at hl
  rcases us with _ | ⟨x1, us⟩
  · simp at hl
  rcases us with _ | ⟨x2, us⟩
  · simp at hl
  rcases us with _ | ⟨x3, us⟩
  · simp at hl
  rcases us with _ | ⟨y, us⟩
  · exact h x0 x1 x2 x3
  · simp at hl
theorem all_mk {l : PySem.W.OpenLaw} {w : World} {K : PySem.W.Frag} {h : Heap} {mg : Str → Option Value} {fa : Addr} (X : K.In h) (G : h.Ns mainGlobals mg) (hfa : mg "law" = some (.ref fa))
    {f0 : Addr} {od0 an0 : Option Addr} {sl0 : Array (Option Value)} {oc0 kV0 dc0 pm0 cd0 ct0 : Value}
    (a0 : PySem.W.nsIn K mainGlobals "is_whole" = some (some (.ref f0))) (l0 : K.lookup f0 = some ⟨oc0, od0, .func (PySem.W.fnOf "is_whole" "is_whole" (defArgs s_is_whole) (defBody s_is_whole) (defScope s_is_whole) .none kV0 dc0 pm0 an0 cd0 ct0), sl0⟩) (c0 : PySem.W.codeIn K cd0 "is_whole" = true) (k0 : PySem.W.keepIn K (.ref f0) = true)
    {f1 : Addr} {od1 an1 : Option Addr} {sl1 : Array (Option Value)} {oc1 kV1 dc1 pm1 cd1 ct1 : Value}
    (a1 : PySem.W.nsIn K mainGlobals "need_between" = some (some (.ref f1))) (l1 : K.lookup f1 = some ⟨oc1, od1, .func (PySem.W.fnOf "need_between" "need_between" (defArgs s_need_between) (defBody s_need_between) (defScope s_need_between) .none kV1 dc1 pm1 an1 cd1 ct1), sl1⟩) (c1 : PySem.W.codeIn K cd1 "need_between" = true) (k1 : PySem.W.keepIn K (.ref f1) = true)
    {f2 : Addr} {od2 an2 : Option Addr} {sl2 : Array (Option Value)} {oc2 kV2 dc2 pm2 cd2 ct2 : Value}
    (a2 : PySem.W.nsIn K mainGlobals "need_wide" = some (some (.ref f2))) (l2 : K.lookup f2 = some ⟨oc2, od2, .func (PySem.W.fnOf "need_wide" "need_wide" (defArgs s_need_wide) (defBody s_need_wide) (defScope s_need_wide) .none kV2 dc2 pm2 an2 cd2 ct2), sl2⟩) (c2 : PySem.W.codeIn K cd2 "need_wide" = true) (k2 : PySem.W.keepIn K (.ref f2) = true)
    {f3 : Addr} {od3 an3 : Option Addr} {sl3 : Array (Option Value)} {oc3 kV3 dc3 pm3 cd3 ct3 : Value}
    (a3 : PySem.W.nsIn K mainGlobals "choose" = some (some (.ref f3))) (l3 : K.lookup f3 = some ⟨oc3, od3, .func (PySem.W.fnOf "choose" "choose" (defArgs s_choose) (defBody s_choose) (defScope s_choose) .none kV3 dc3 pm3 an3 cd3 ct3), sl3⟩) (c3 : PySem.W.codeIn K cd3 "choose" = true) (k3 : PySem.W.keepIn K (.ref f3) = true)
    {f4 : Addr} {od4 an4 : Option Addr} {sl4 : Array (Option Value)} {oc4 kV4 dc4 pm4 cd4 ct4 : Value}
    (a4 : PySem.W.nsIn K mainGlobals "is_row" = some (some (.ref f4))) (l4 : K.lookup f4 = some ⟨oc4, od4, .func (PySem.W.fnOf "is_row" "is_row" (defArgs s_is_row) (defBody s_is_row) (defScope s_is_row) .none kV4 dc4 pm4 an4 cd4 ct4), sl4⟩) (c4 : PySem.W.codeIn K cd4 "is_row" = true) (k4 : PySem.W.keepIn K (.ref f4) = true)
    {f5 : Addr} {od5 an5 : Option Addr} {sl5 : Array (Option Value)} {oc5 kV5 dc5 pm5 cd5 ct5 : Value}
    (a5 : PySem.W.nsIn K mainGlobals "row_weight" = some (some (.ref f5))) (l5 : K.lookup f5 = some ⟨oc5, od5, .func (PySem.W.fnOf "row_weight" "row_weight" (defArgs s_row_weight) (defBody s_row_weight) (defScope s_row_weight) .none kV5 dc5 pm5 an5 cd5 ct5), sl5⟩) (c5 : PySem.W.codeIn K cd5 "row_weight" = true) (k5 : PySem.W.keepIn K (.ref f5) = true)
    {f6 : Addr} {od6 an6 : Option Addr} {sl6 : Array (Option Value)} {oc6 kV6 dc6 pm6 cd6 ct6 : Value}
    (a6 : PySem.W.nsIn K mainGlobals "need_rows" = some (some (.ref f6))) (l6 : K.lookup f6 = some ⟨oc6, od6, .func (PySem.W.fnOf "need_rows" "need_rows" (defArgs s_need_rows) (defBody s_need_rows) (defScope s_need_rows) .none kV6 dc6 pm6 an6 cd6 ct6), sl6⟩) (c6 : PySem.W.codeIn K cd6 "need_rows" = true) (k6 : PySem.W.keepIn K (.ref f6) = true)
    {f7 : Addr} {od7 an7 : Option Addr} {sl7 : Array (Option Value)} {oc7 kV7 dc7 pm7 cd7 ct7 : Value}
    (a7 : PySem.W.nsIn K mainGlobals "with_more" = some (some (.ref f7))) (l7 : K.lookup f7 = some ⟨oc7, od7, .func (PySem.W.fnOf "with_more" "with_more" (defArgs s_with_more) (defBody s_with_more) (defScope s_with_more) .none kV7 dc7 pm7 an7 cd7 ct7), sl7⟩) (c7 : PySem.W.codeIn K cd7 "with_more" = true) (k7 : PySem.W.keepIn K (.ref f7) = true)
    {f8 : Addr} {od8 an8 : Option Addr} {sl8 : Array (Option Value)} {oc8 kV8 dc8 pm8 cd8 ct8 : Value}
    (a8 : PySem.W.nsIn K mainGlobals "product_of" = some (some (.ref f8))) (l8 : K.lookup f8 = some ⟨oc8, od8, .func (PySem.W.fnOf "product_of" "product_of" (defArgs s_product_of) (defBody s_product_of) (defScope s_product_of) .none kV8 dc8 pm8 an8 cd8 ct8), sl8⟩) (c8 : PySem.W.codeIn K cd8 "product_of" = true) (k8 : PySem.W.keepIn K (.ref f8) = true)
    {f9 : Addr} {od9 an9 : Option Addr} {sl9 : Array (Option Value)} {oc9 kV9 dc9 pm9 cd9 ct9 : Value}
    (a9 : PySem.W.nsIn K mainGlobals "filled_up" = some (some (.ref f9))) (l9 : K.lookup f9 = some ⟨oc9, od9, .func (PySem.W.fnOf "filled_up" "filled_up" (defArgs s_filled_up) (defBody s_filled_up) (defScope s_filled_up) .none kV9 dc9 pm9 an9 cd9 ct9), sl9⟩) (c9 : PySem.W.codeIn K cd9 "filled_up" = true) (k9 : PySem.W.keepIn K (.ref f9) = true)
    {f10 : Addr} {od10 an10 : Option Addr} {sl10 : Array (Option Value)} {oc10 kV10 dc10 pm10 cd10 ct10 : Value}
    (a10 : PySem.W.nsIn K mainGlobals "rows_within" = some (some (.ref f10))) (l10 : K.lookup f10 = some ⟨oc10, od10, .func (PySem.W.fnOf "rows_within" "rows_within" (defArgs s_rows_within) (defBody s_rows_within) (defScope s_rows_within) .none kV10 dc10 pm10 an10 cd10 ct10), sl10⟩) (c10 : PySem.W.codeIn K cd10 "rows_within" = true) (k10 : PySem.W.keepIn K (.ref f10) = true)
    {f11 : Addr} {od11 an11 : Option Addr} {sl11 : Array (Option Value)} {oc11 kV11 dc11 pm11 cd11 ct11 : Value}
    (a11 : PySem.W.nsIn K mainGlobals "rows_beyond" = some (some (.ref f11))) (l11 : K.lookup f11 = some ⟨oc11, od11, .func (PySem.W.fnOf "rows_beyond" "rows_beyond" (defArgs s_rows_beyond) (defBody s_rows_beyond) (defScope s_rows_beyond) .none kV11 dc11 pm11 an11 cd11 ct11), sl11⟩) (c11 : PySem.W.codeIn K cd11 "rows_beyond" = true) (k11 : PySem.W.keepIn K (.ref f11) = true)
    {f12 : Addr} {od12 an12 : Option Addr} {sl12 : Array (Option Value)} {oc12 kV12 dc12 pm12 cd12 ct12 : Value}
    (a12 : PySem.W.nsIn K mainGlobals "choices" = some (some (.ref f12))) (l12 : K.lookup f12 = some ⟨oc12, od12, .func (PySem.W.fnOf "choices" "choices" (defArgs s_choices) (defBody s_choices) (defScope s_choices) .none kV12 dc12 pm12 an12 cd12 ct12), sl12⟩) (c12 : PySem.W.codeIn K cd12 "choices" = true) (k12 : PySem.W.keepIn K (.ref f12) = true)
    {f13 : Addr} {od13 an13 : Option Addr} {sl13 : Array (Option Value)} {oc13 kV13 dc13 pm13 cd13 ct13 : Value}
    (a13 : PySem.W.nsIn K mainGlobals "weights_gained" = some (some (.ref f13))) (l13 : K.lookup f13 = some ⟨oc13, od13, .func (PySem.W.fnOf "weights_gained" "weights_gained" (defArgs s_weights_gained) (defBody s_weights_gained) (defScope s_weights_gained) .none kV13 dc13 pm13 an13 cd13 ct13), sl13⟩) (c13 : PySem.W.codeIn K cd13 "weights_gained" = true) (k13 : PySem.W.keepIn K (.ref f13) = true)
    {f14 : Addr} {od14 an14 : Option Addr} {sl14 : Array (Option Value)} {oc14 kV14 dc14 pm14 cd14 ct14 : Value}
    (a14 : PySem.W.nsIn K mainGlobals "with_one_held" = some (some (.ref f14))) (l14 : K.lookup f14 = some ⟨oc14, od14, .func (PySem.W.fnOf "with_one_held" "with_one_held" (defArgs s_with_one_held) (defBody s_with_one_held) (defScope s_with_one_held) .none kV14 dc14 pm14 an14 cd14 ct14), sl14⟩) (c14 : PySem.W.codeIn K cd14 "with_one_held" = true) (k14 : PySem.W.keepIn K (.ref f14) = true)
    {f15 : Addr} {od15 an15 : Option Addr} {sl15 : Array (Option Value)} {oc15 kV15 dc15 pm15 cd15 ct15 : Value}
    (a15 : PySem.W.nsIn K mainGlobals "with_one_degree_fewer" = some (some (.ref f15))) (l15 : K.lookup f15 = some ⟨oc15, od15, .func (PySem.W.fnOf "with_one_degree_fewer" "with_one_degree_fewer" (defArgs s_with_one_degree_fewer) (defBody s_with_one_degree_fewer) (defScope s_with_one_degree_fewer) .none kV15 dc15 pm15 an15 cd15 ct15), sl15⟩) (c15 : PySem.W.codeIn K cd15 "with_one_degree_fewer" = true) (k15 : PySem.W.keepIn K (.ref f15) = true)
    {f16 : Addr} {od16 an16 : Option Addr} {sl16 : Array (Option Value)} {oc16 kV16 dc16 pm16 cd16 ct16 : Value}
    (a16 : PySem.W.nsIn K mainGlobals "summands" = some (some (.ref f16))) (l16 : K.lookup f16 = some ⟨oc16, od16, .func (PySem.W.fnOf "summands" "summands" (defArgs s_summands) (defBody s_summands) (defScope s_summands) .none kV16 dc16 pm16 an16 cd16 ct16), sl16⟩) (c16 : PySem.W.codeIn K cd16 "summands" = true) (k16 : PySem.W.keepIn K (.ref f16) = true)
    {f17 : Addr} {od17 an17 : Option Addr} {sl17 : Array (Option Value)} {oc17 kV17 dc17 pm17 cd17 ct17 : Value}
    (a17 : PySem.W.nsIn K mainGlobals "counted" = some (some (.ref f17))) (l17 : K.lookup f17 = some ⟨oc17, od17, .func (PySem.W.fnOf "counted" "counted" (defArgs s_counted) (defBody s_counted) (defScope s_counted) .none kV17 dc17 pm17 an17 cd17 ct17), sl17⟩) (c17 : PySem.W.codeIn K cd17 "counted" = true) (k17 : PySem.W.keepIn K (.ref f17) = true)
    {f18 : Addr} {od18 an18 : Option Addr} {sl18 : Array (Option Value)} {oc18 kV18 dc18 pm18 cd18 ct18 : Value}
    (a18 : PySem.W.nsIn K mainGlobals "asked_of" = some (some (.ref f18))) (l18 : K.lookup f18 = some ⟨oc18, od18, .func (PySem.W.fnOf "asked_of" "asked_of" (defArgs s_asked_of) (defBody s_asked_of) (defScope s_asked_of) .none kV18 dc18 pm18 an18 cd18 ct18), sl18⟩) (c18 : PySem.W.codeIn K cd18 "asked_of" = true) (k18 : PySem.W.keepIn K (.ref f18) = true)
    {f19 : Addr} {od19 an19 : Option Addr} {sl19 : Array (Option Value)} {oc19 kV19 dc19 pm19 cd19 ct19 : Value}
    (a19 : PySem.W.nsIn K mainGlobals "by_ends" = some (some (.ref f19))) (l19 : K.lookup f19 = some ⟨oc19, od19, .func (PySem.W.fnOf "by_ends" "by_ends" (defArgs s_by_ends) (defBody s_by_ends) (defScope s_by_ends) .none kV19 dc19 pm19 an19 cd19 ct19), sl19⟩) (c19 : PySem.W.codeIn K cd19 "by_ends" = true) (k19 : PySem.W.keepIn K (.ref f19) = true)
    {f20 : Addr} {od20 an20 : Option Addr} {sl20 : Array (Option Value)} {oc20 kV20 dc20 pm20 cd20 ct20 : Value}
    (a20 : PySem.W.nsIn K mainGlobals "_law_cell_at" = some (some (.ref f20))) (l20 : K.lookup f20 = some ⟨oc20, od20, .func (PySem.W.fnOf "_law_cell_at" "_law_cell_at" (defArgs s__law_cell_at) (defBody s__law_cell_at) (defScope s__law_cell_at) .none kV20 dc20 pm20 an20 cd20 ct20), sl20⟩) (c20 : PySem.W.codeIn K cd20 "_law_cell_at" = true) (k20 : PySem.W.keepIn K (.ref f20) = true)
    {f21 : Addr} {od21 an21 : Option Addr} {sl21 : Array (Option Value)} {oc21 kV21 dc21 pm21 cd21 ct21 : Value}
    (a21 : PySem.W.nsIn K mainGlobals "_law_great" = some (some (.ref f21))) (l21 : K.lookup f21 = some ⟨oc21, od21, .func (PySem.W.fnOf "_law_great" "_law_great" (defArgs s__law_great) (defBody s__law_great) (defScope s__law_great) .none kV21 dc21 pm21 an21 cd21 ct21), sl21⟩) (c21 : PySem.W.codeIn K cd21 "_law_great" = true) (k21 : PySem.W.keepIn K (.ref f21) = true)
    {f22 : Addr} {od22 an22 : Option Addr} {sl22 : Array (Option Value)} {oc22 kV22 dc22 pm22 cd22 ct22 : Value}
    (a22 : PySem.W.nsIn K mainGlobals "_law_digit" = some (some (.ref f22))) (l22 : K.lookup f22 = some ⟨oc22, od22, .func (PySem.W.fnOf "_law_digit" "_law_digit" (defArgs s__law_digit) (defBody s__law_digit) (defScope s__law_digit) .none kV22 dc22 pm22 an22 cd22 ct22), sl22⟩) (c22 : PySem.W.codeIn K cd22 "_law_digit" = true) (k22 : PySem.W.keepIn K (.ref f22) = true)
    {f23 : Addr} {od23 an23 : Option Addr} {sl23 : Array (Option Value)} {oc23 kV23 dc23 pm23 cd23 ct23 : Value}
    (a23 : PySem.W.nsIn K mainGlobals "_law_rows" = some (some (.ref f23))) (l23 : K.lookup f23 = some ⟨oc23, od23, .func (PySem.W.fnOf "_law_rows" "_law_rows" (defArgs s__law_rows) (defBody s__law_rows) (defScope s__law_rows) .none kV23 dc23 pm23 an23 cd23 ct23), sl23⟩) (c23 : PySem.W.codeIn K cd23 "_law_rows" = true) (k23 : PySem.W.keepIn K (.ref f23) = true)
    {f24 : Addr} {od24 an24 : Option Addr} {sl24 : Array (Option Value)} {oc24 kV24 dc24 pm24 cd24 ct24 : Value}
    (a24 : PySem.W.nsIn K mainGlobals "_law_trimmed" = some (some (.ref f24))) (l24 : K.lookup f24 = some ⟨oc24, od24, .func (PySem.W.fnOf "_law_trimmed" "_law_trimmed" (defArgs s__law_trimmed) (defBody s__law_trimmed) (defScope s__law_trimmed) .none kV24 dc24 pm24 an24 cd24 ct24), sl24⟩) (c24 : PySem.W.codeIn K cd24 "_law_trimmed" = true) (k24 : PySem.W.keepIn K (.ref f24) = true)
    {f25 : Addr} {od25 an25 : Option Addr} {sl25 : Array (Option Value)} {oc25 kV25 dc25 pm25 cd25 ct25 : Value}
    (a25 : PySem.W.nsIn K mainGlobals "_law_choose" = some (some (.ref f25))) (l25 : K.lookup f25 = some ⟨oc25, od25, .func (PySem.W.fnOf "_law_choose" "_law_choose" (defArgs s__law_choose) (defBody s__law_choose) (defScope s__law_choose) .none kV25 dc25 pm25 an25 cd25 ct25), sl25⟩) (c25 : PySem.W.codeIn K cd25 "_law_choose" = true) (k25 : PySem.W.keepIn K (.ref f25) = true)
    {f26 : Addr} {od26 an26 : Option Addr} {sl26 : Array (Option Value)} {oc26 kV26 dc26 pm26 cd26 ct26 : Value}
    (a26 : PySem.W.nsIn K mainGlobals "_law_within" = some (some (.ref f26))) (l26 : K.lookup f26 = some ⟨oc26, od26, .func (PySem.W.fnOf "_law_within" "_law_within" (defArgs s__law_within) (defBody s__law_within) (defScope s__law_within) .none kV26 dc26 pm26 an26 cd26 ct26), sl26⟩) (c26 : PySem.W.codeIn K cd26 "_law_within" = true) (k26 : PySem.W.keepIn K (.ref f26) = true)
    {f27 : Addr} {od27 an27 : Option Addr} {sl27 : Array (Option Value)} {oc27 kV27 dc27 pm27 cd27 ct27 : Value}
    (a27 : PySem.W.nsIn K mainGlobals "_law_weight" = some (some (.ref f27))) (l27 : K.lookup f27 = some ⟨oc27, od27, .func (PySem.W.fnOf "_law_weight" "_law_weight" (defArgs s__law_weight) (defBody s__law_weight) (defScope s__law_weight) .none kV27 dc27 pm27 an27 cd27 ct27), sl27⟩) (c27 : PySem.W.codeIn K cd27 "_law_weight" = true) (k27 : PySem.W.keepIn K (.ref f27) = true)
    {f28 : Addr} {od28 an28 : Option Addr} {sl28 : Array (Option Value)} {oc28 kV28 dc28 pm28 cd28 ct28 : Value}
    (a28 : PySem.W.nsIn K mainGlobals "_law_above" = some (some (.ref f28))) (l28 : K.lookup f28 = some ⟨oc28, od28, .func (PySem.W.fnOf "_law_above" "_law_above" (defArgs s__law_above) (defBody s__law_above) (defScope s__law_above) .none kV28 dc28 pm28 an28 cd28 ct28), sl28⟩) (c28 : PySem.W.codeIn K cd28 "_law_above" = true) (k28 : PySem.W.keepIn K (.ref f28) = true)
    {f29 : Addr} {od29 an29 : Option Addr} {sl29 : Array (Option Value)} {oc29 kV29 dc29 pm29 cd29 ct29 : Value}
    (a29 : PySem.W.nsIn K mainGlobals "_law_by_held" = some (some (.ref f29))) (l29 : K.lookup f29 = some ⟨oc29, od29, .func (PySem.W.fnOf "_law_by_held" "_law_by_held" (defArgs s__law_by_held) (defBody s__law_by_held) (defScope s__law_by_held) .none kV29 dc29 pm29 an29 cd29 ct29), sl29⟩) (c29 : PySem.W.codeIn K cd29 "_law_by_held" = true) (k29 : PySem.W.keepIn K (.ref f29) = true)
    {f30 : Addr} {od30 an30 : Option Addr} {sl30 : Array (Option Value)} {oc30 kV30 dc30 pm30 cd30 ct30 : Value}
    (a30 : PySem.W.nsIn K mainGlobals "_law_ways" = some (some (.ref f30))) (l30 : K.lookup f30 = some ⟨oc30, od30, .func (PySem.W.fnOf "_law_ways" "_law_ways" (defArgs s__law_ways) (defBody s__law_ways) (defScope s__law_ways) .none kV30 dc30 pm30 an30 cd30 ct30), sl30⟩) (c30 : PySem.W.codeIn K cd30 "_law_ways" = true) (k30 : PySem.W.keepIn K (.ref f30) = true)
    {f31 : Addr} {od31 an31 : Option Addr} {sl31 : Array (Option Value)} {oc31 kV31 dc31 pm31 cd31 ct31 : Value}
    (a31 : PySem.W.nsIn K mainGlobals "_law_by_floor" = some (some (.ref f31))) (l31 : K.lookup f31 = some ⟨oc31, od31, .func (PySem.W.fnOf "_law_by_floor" "_law_by_floor" (defArgs s__law_by_floor) (defBody s__law_by_floor) (defScope s__law_by_floor) .none kV31 dc31 pm31 an31 cd31 ct31), sl31⟩) (c31 : PySem.W.codeIn K cd31 "_law_by_floor" = true) (k31 : PySem.W.keepIn K (.ref f31) = true)
    {f32 : Addr} {od32 an32 : Option Addr} {sl32 : Array (Option Value)} {oc32 kV32 dc32 pm32 cd32 ct32 : Value}
    (a32 : PySem.W.nsIn K mainGlobals "_law_one" = some (some (.ref f32))) (l32 : K.lookup f32 = some ⟨oc32, od32, .func (PySem.W.fnOf "_law_one" "_law_one" (defArgs s__law_one) (defBody s__law_one) (defScope s__law_one) .none kV32 dc32 pm32 an32 cd32 ct32), sl32⟩) (c32 : PySem.W.codeIn K cd32 "_law_one" = true) (k32 : PySem.W.keepIn K (.ref f32) = true)
    {f33 : Addr} {od33 an33 : Option Addr} {sl33 : Array (Option Value)} {oc33 kV33 dc33 pm33 cd33 ct33 : Value}
    (a33 : PySem.W.nsIn K mainGlobals "law" = some (some (.ref f33))) (l33 : K.lookup f33 = some ⟨oc33, od33, .func (PySem.W.fnOf "law" "law" (defArgs s_law) (defBody s_law) (defScope s_law) .none kV33 dc33 pm33 an33 cd33 ct33), sl33⟩) (c33 : PySem.W.codeIn K cd33 "law" = true) (k33 : PySem.W.keepIn K (.ref f33) = true)
    (z0 : PySem.W.nsIn K mainGlobals "isinstance" = some none)
    (z1 : PySem.W.nsIn K mainGlobals "int" = some none)
    (z2 : PySem.W.nsIn K mainGlobals "bool" = some none)
    (z3 : PySem.W.nsIn K mainGlobals "range" = some none)
    (z4 : PySem.W.nsIn K mainGlobals "list" = some none)
    (z5 : PySem.W.nsIn K mainGlobals "sum" = some none)
    (z6 : PySem.W.nsIn K mainGlobals "enumerate" = some none)
    (z7 : PySem.W.nsIn K mainGlobals "tuple" = some none)
    (z8 : PySem.W.nsIn K mainGlobals "len" = some none)
    (z9 : PySem.W.nsIn K mainGlobals "min" = some none)
    (z10 : PySem.W.nsIn K mainGlobals "zip" = some none)
    (z11 : PySem.W.nsIn K mainGlobals "max" = some none)
    {A_WIDE : Addr} (da_WIDE : PySem.W.nsIn K mainGlobals "WIDE" = some (some (.ref A_WIDE))) (dt_WIDE : dtabIn K A_WIDE [(1, 6), (2, 6), (3, 6), (4, 6), (5, 3)] = true)
    {C_NoBound : Addr} (ca_NoBound : PySem.W.nsIn K mainGlobals "NoBound" = some (some (.ref C_NoBound)))
    {C_NoEnds : Addr} (ca_NoEnds : PySem.W.nsIn K mainGlobals "NoEnds" = some (some (.ref C_NoEnds)))
    (cx_NoBound : PySem.W.excIn K C_NoBound bmV "ValueError.__new__" = true)
    (xc_NoBound_cl : (PySem.W.clsIn K C_NoBound).isSome = true)
    (xc_NoBound_ga : PySem.W.findIn K (.ref C_NoBound) "__getattribute__" = some (some (.builtin "BaseException.__getattribute__")))
    (xc_NoBound_gt : PySem.W.findIn K (.ref C_NoBound) "__getattr__" = some none)
    (xc_NoBound_ca : PySem.W.findIn K (.ref C_NoBound) "__class__" = some (some (.builtin "object.__class__")))
    (xc_NoBound_gn : PySem.W.specialIn K (.builtin "object.__class__") "__get__" = some (some (.builtin "getset_descriptor.__get__")))
    (xc_NoBound_tk : PySem.W.takesIn K (.builtin "object.__class__") = some true)
    (xc_NoBound_ob : PySem.W.mroIn K C_NoBound (.type "object") = some true)
    (xc_NoBound_be : PySem.W.mroIn K C_NoBound (.type "BaseException") = some true)
    (cx_NoEnds : PySem.W.excIn K C_NoEnds bmV "ValueError.__new__" = true)
    (xc_NoEnds_cl : (PySem.W.clsIn K C_NoEnds).isSome = true)
    (xc_NoEnds_ga : PySem.W.findIn K (.ref C_NoEnds) "__getattribute__" = some (some (.builtin "BaseException.__getattribute__")))
    (xc_NoEnds_gt : PySem.W.findIn K (.ref C_NoEnds) "__getattr__" = some none)
    (xc_NoEnds_ca : PySem.W.findIn K (.ref C_NoEnds) "__class__" = some (some (.builtin "object.__class__")))
    (xc_NoEnds_gn : PySem.W.specialIn K (.builtin "object.__class__") "__get__" = some (some (.builtin "getset_descriptor.__get__")))
    (xc_NoEnds_tk : PySem.W.takesIn K (.builtin "object.__class__") = some true)
    (xc_NoEnds_ob : PySem.W.mroIn K C_NoEnds (.type "object") = some true)
    (xc_NoEnds_be : PySem.W.mroIn K C_NoEnds (.type "BaseException") = some true)
    : ∃ fd : FuncData, (∀ (s : Shared) (v : Value), BindsTo s fd ⟨[v], []⟩ [("_law_script", v)]) ∧ ∀ base : Heap, K.In base → base.Ns mainGlobals mg → FnOk l.prog w K mg base CX0 57 fa fd ["_law_script"] (sp_law K) := by
  have e := hfa.symm.trans (PySem.W.mg_of X G a33)
  cases e
  have F0 := fun_mk (st := s_is_whole) l0 c0 k0
  have B0 := F0.binds (ps := ["thing"]) fun _ _ _ _ _ _ us hl => us1 (Q := fun us => bindArgs _ ⟨us, []⟩ = pure (List.zip _ us)) (fun _ => rfl) us hl
  have F1 := fun_mk (st := s_need_between) l1 c1 k1
  have B1 := F1.binds (ps := ["thing", "least", "greatest"]) fun _ _ _ _ _ _ us hl => us3 (Q := fun us => bindArgs _ ⟨us, []⟩ = pure (List.zip _ us)) (fun _ _ _ => rfl) us hl
  have F2 := fun_mk (st := s_need_wide) l2 c2 k2
  have B2 := F2.binds (ps := ["d", "k"]) fun _ _ _ _ _ _ us hl => us2 (Q := fun us => bindArgs _ ⟨us, []⟩ = pure (List.zip _ us)) (fun _ _ => rfl) us hl
  have F3 := fun_mk (st := s_choose) l3 c3 k3
  have B3 := F3.binds (ps := ["number", "chosen"]) fun _ _ _ _ _ _ us hl => us2 (Q := fun us => bindArgs _ ⟨us, []⟩ = pure (List.zip _ us)) (fun _ _ => rfl) us hl
  have F4 := fun_mk (st := s_is_row) l4 c4 k4
  have B4 := F4.binds (ps := ["thing"]) fun _ _ _ _ _ _ us hl => us1 (Q := fun us => bindArgs _ ⟨us, []⟩ = pure (List.zip _ us)) (fun _ => rfl) us hl
  have F5 := fun_mk (st := s_row_weight) l5 c5 k5
  have B5 := F5.binds (ps := ["row"]) fun _ _ _ _ _ _ us hl => us1 (Q := fun us => bindArgs _ ⟨us, []⟩ = pure (List.zip _ us)) (fun _ => rfl) us hl
  have F6 := fun_mk (st := s_need_rows) l6 c6 k6
  have B6 := F6.binds (ps := ["d", "held", "free"]) fun _ _ _ _ _ _ us hl => us3 (Q := fun us => bindArgs _ ⟨us, []⟩ = pure (List.zip _ us)) (fun _ _ _ => rfl) us hl
  have F7 := fun_mk (st := s_with_more) l7 c7 k7
  have B7 := F7.binds (ps := ["numbers", "place", "more"]) fun _ _ _ _ _ _ us hl => us3 (Q := fun us => bindArgs _ ⟨us, []⟩ = pure (List.zip _ us)) (fun _ _ _ => rfl) us hl
  have F8 := fun_mk (st := s_product_of) l8 c8 k8
  have B8 := F8.binds (ps := ["numbers"]) fun _ _ _ _ _ _ us hl => us1 (Q := fun us => bindArgs _ ⟨us, []⟩ = pure (List.zip _ us)) (fun _ => rfl) us hl
  have F9 := fun_mk (st := s_filled_up) l9 c9 k9
  have B9 := F9.binds (ps := ["row", "length"]) fun _ _ _ _ _ _ us hl => us2 (Q := fun us => bindArgs _ ⟨us, []⟩ = pure (List.zip _ us)) (fun _ _ => rfl) us hl
  have F10 := fun_mk (st := s_rows_within) l10 c10 k10
  have B10 := F10.binds (ps := ["row"]) fun _ _ _ _ _ _ us hl => us1 (Q := fun us => bindArgs _ ⟨us, []⟩ = pure (List.zip _ us)) (fun _ => rfl) us hl
  have F11 := fun_mk (st := s_rows_beyond) l11 c11 k11
  have B11 := F11.binds (ps := ["row", "weight", "first"]) fun _ _ _ _ _ _ us hl => us3 (Q := fun us => bindArgs _ ⟨us, []⟩ = pure (List.zip _ us)) (fun _ _ _ => rfl) us hl
  have F12 := fun_mk (st := s_choices) l12 c12 k12
  have B12 := F12.binds (ps := ["row", "chosen"]) fun _ _ _ _ _ _ us hl => us2 (Q := fun us => bindArgs _ ⟨us, []⟩ = pure (List.zip _ us)) (fun _ _ => rfl) us hl
  have F13 := fun_mk (st := s_weights_gained) l13 c13 k13
  have B13 := F13.binds (ps := ["row", "fuller"]) fun _ _ _ _ _ _ us hl => us2 (Q := fun us => bindArgs _ ⟨us, []⟩ = pure (List.zip _ us)) (fun _ _ => rfl) us hl
  have F14 := fun_mk (st := s_with_one_held) l14 c14 k14
  have B14 := F14.binds (ps := ["d", "k", "held", "free"]) fun _ _ _ _ _ _ us hl => us4 (Q := fun us => bindArgs _ ⟨us, []⟩ = pure (List.zip _ us)) (fun _ _ _ _ => rfl) us hl
  have F15 := fun_mk (st := s_with_one_degree_fewer) l15 c15 k15
  have B15 := F15.binds (ps := ["d", "k", "held", "free"]) fun _ _ _ _ _ _ us hl => us4 (Q := fun us => bindArgs _ ⟨us, []⟩ = pure (List.zip _ us)) (fun _ _ _ _ => rfl) us hl
  have F16 := fun_mk (st := s_summands) l16 c16 k16
  have B16 := F16.binds (ps := ["asked"]) fun _ _ _ _ _ _ us hl => us1 (Q := fun us => bindArgs _ ⟨us, []⟩ = pure (List.zip _ us)) (fun _ => rfl) us hl
  have F17 := fun_mk (st := s_counted) l17 c17 k17
  have B17 := F17.binds (ps := ["asked", "known"]) fun _ _ _ _ _ _ us hl => us2 (Q := fun us => bindArgs _ ⟨us, []⟩ = pure (List.zip _ us)) (fun _ _ => rfl) us hl
  have F18 := fun_mk (st := s_asked_of) l18 c18 k18
  have B18 := F18.binds (ps := ["d", "k", "held", "free"]) fun _ _ _ _ _ _ us hl => us4 (Q := fun us => bindArgs _ ⟨us, []⟩ = pure (List.zip _ us)) (fun _ _ _ _ => rfl) us hl
  have F19 := fun_mk (st := s_by_ends) l19 c19 k19
  have B19 := F19.binds (ps := ["d", "k", "held", "free"]) fun _ _ _ _ _ _ us hl => us4 (Q := fun us => bindArgs _ ⟨us, []⟩ = pure (List.zip _ us)) (fun _ _ _ _ => rfl) us hl
  have F20 := fun_mk (st := s__law_cell_at) l20 c20 k20
  have B20 := F20.binds (ps := ["_law_script", "_law_k"]) fun _ _ _ _ _ _ us hl => us2 (Q := fun us => bindArgs _ ⟨us, []⟩ = pure (List.zip _ us)) (fun _ _ => rfl) us hl
  have F21 := fun_mk (st := s__law_great) l21 c21 k21
  have B21 := F21.binds (ps := ["_law_cell"]) fun _ _ _ _ _ _ us hl => us1 (Q := fun us => bindArgs _ ⟨us, []⟩ = pure (List.zip _ us)) (fun _ => rfl) us hl
  have F22 := fun_mk (st := s__law_digit) l22 c22 k22
  have B22 := F22.binds (ps := ["_law_rest", "_law_m"]) fun _ _ _ _ _ _ us hl => us2 (Q := fun us => bindArgs _ ⟨us, []⟩ = pure (List.zip _ us)) (fun _ _ => rfl) us hl
  have F23 := fun_mk (st := s__law_rows) l23 c23 k23
  have B23 := F23.binds (ps := ["_law_rest", "_law_d"]) fun _ _ _ _ _ _ us hl => us2 (Q := fun us => bindArgs _ ⟨us, []⟩ = pure (List.zip _ us)) (fun _ _ => rfl) us hl
  have F24 := fun_mk (st := s__law_trimmed) l24 c24 k24
  have B24 := F24.binds (ps := ["_law_row"]) fun _ _ _ _ _ _ us hl => us1 (Q := fun us => bindArgs _ ⟨us, []⟩ = pure (List.zip _ us)) (fun _ => rfl) us hl
  have F25 := fun_mk (st := s__law_choose) l25 c25 k25
  have B25 := F25.binds (ps := ["_law_many", "_law_few"]) fun _ _ _ _ _ _ us hl => us2 (Q := fun us => bindArgs _ ⟨us, []⟩ = pure (List.zip _ us)) (fun _ _ => rfl) us hl
  have F26 := fun_mk (st := s__law_within) l26 c26 k26
  have B26 := F26.binds (ps := ["_law_row"]) fun _ _ _ _ _ _ us hl => us1 (Q := fun us => bindArgs _ ⟨us, []⟩ = pure (List.zip _ us)) (fun _ => rfl) us hl
  have F27 := fun_mk (st := s__law_weight) l27 c27 k27
  have B27 := F27.binds (ps := ["_law_row"]) fun _ _ _ _ _ _ us hl => us1 (Q := fun us => bindArgs _ ⟨us, []⟩ = pure (List.zip _ us)) (fun _ => rfl) us hl
  have F28 := fun_mk (st := s__law_above) l28 c28 k28
  have B28 := F28.binds (ps := ["_law_row", "_law_spare"]) fun _ _ _ _ _ _ us hl => us2 (Q := fun us => bindArgs _ ⟨us, []⟩ = pure (List.zip _ us)) (fun _ _ => rfl) us hl
  have F29 := fun_mk (st := s__law_by_held) l29 c29 k29
  have B29 := F29.binds (ps := ["_law_d", "_law_k", "_law_held", "_law_free"]) fun _ _ _ _ _ _ us hl => us4 (Q := fun us => bindArgs _ ⟨us, []⟩ = pure (List.zip _ us)) (fun _ _ _ _ => rfl) us hl
  have F30 := fun_mk (st := s__law_ways) l30 c30 k30
  have B30 := F30.binds (ps := ["_law_kept", "_law_held", "_law_free", "_law_freed"]) fun _ _ _ _ _ _ us hl => us4 (Q := fun us => bindArgs _ ⟨us, []⟩ = pure (List.zip _ us)) (fun _ _ _ _ => rfl) us hl
  have F31 := fun_mk (st := s__law_by_floor) l31 c31 k31
  have B31 := F31.binds (ps := ["_law_d", "_law_k", "_law_held", "_law_free"]) fun _ _ _ _ _ _ us hl => us4 (Q := fun us => bindArgs _ ⟨us, []⟩ = pure (List.zip _ us)) (fun _ _ _ _ => rfl) us hl
  have F32 := fun_mk (st := s__law_one) l32 c32 k32
  have B32 := F32.binds (ps := ["_law_cell", "_law_most"]) fun _ _ _ _ _ _ us hl => us2 (Q := fun us => bindArgs _ ⟨us, []⟩ = pure (List.zip _ us)) (fun _ _ => rfl) us hl
  have F33 := fun_mk (st := s_law) l33 c33 k33
  have B33 := F33.binds (ps := ["_law_script"]) fun _ _ _ _ _ _ us hl => us1 (Q := fun us => bindArgs _ ⟨us, []⟩ = pure (List.zip _ us)) (fun _ => rfl) us hl
  let T : Fns K mg := { f_is_whole := f0, d_is_whole := _, F_is_whole := F0, B_is_whole := B0, m_is_whole := PySem.W.mg_of X G a0, f_need_between := f1, d_need_between := _, F_need_between := F1, B_need_between := B1, m_need_between := PySem.W.mg_of X G a1, f_need_wide := f2, d_need_wide := _, F_need_wide := F2, B_need_wide := B2, m_need_wide := PySem.W.mg_of X G a2, f_choose := f3, d_choose := _, F_choose := F3, B_choose := B3, m_choose := PySem.W.mg_of X G a3, f_is_row := f4, d_is_row := _, F_is_row := F4, B_is_row := B4, m_is_row := PySem.W.mg_of X G a4, f_row_weight := f5, d_row_weight := _, F_row_weight := F5, B_row_weight := B5, m_row_weight := PySem.W.mg_of X G a5, f_need_rows := f6, d_need_rows := _, F_need_rows := F6, B_need_rows := B6, m_need_rows := PySem.W.mg_of X G a6, f_with_more := f7, d_with_more := _, F_with_more := F7, B_with_more := B7, m_with_more := PySem.W.mg_of X G a7, f_product_of := f8, d_product_of := _, F_product_of := F8, B_product_of := B8, m_product_of := PySem.W.mg_of X G a8, f_filled_up := f9, d_filled_up := _, F_filled_up := F9, B_filled_up := B9, m_filled_up := PySem.W.mg_of X G a9, f_rows_within := f10, d_rows_within := _, F_rows_within := F10, B_rows_within := B10, m_rows_within := PySem.W.mg_of X G a10, f_rows_beyond := f11, d_rows_beyond := _, F_rows_beyond := F11, B_rows_beyond := B11, m_rows_beyond := PySem.W.mg_of X G a11, f_choices := f12, d_choices := _, F_choices := F12, B_choices := B12, m_choices := PySem.W.mg_of X G a12, f_weights_gained := f13, d_weights_gained := _, F_weights_gained := F13, B_weights_gained := B13, m_weights_gained := PySem.W.mg_of X G a13, f_with_one_held := f14, d_with_one_held := _, F_with_one_held := F14, B_with_one_held := B14, m_with_one_held := PySem.W.mg_of X G a14, f_with_one_degree_fewer := f15, d_with_one_degree_fewer := _, F_with_one_degree_fewer := F15, B_with_one_degree_fewer := B15, m_with_one_degree_fewer := PySem.W.mg_of X G a15, f_summands := f16, d_summands := _, F_summands := F16, B_summands := B16, m_summands := PySem.W.mg_of X G a16, f_counted := f17, d_counted := _, F_counted := F17, B_counted := B17, m_counted := PySem.W.mg_of X G a17, f_asked_of := f18, d_asked_of := _, F_asked_of := F18, B_asked_of := B18, m_asked_of := PySem.W.mg_of X G a18, f_by_ends := f19, d_by_ends := _, F_by_ends := F19, B_by_ends := B19, m_by_ends := PySem.W.mg_of X G a19, f__law_cell_at := f20, d__law_cell_at := _, F__law_cell_at := F20, B__law_cell_at := B20, m__law_cell_at := PySem.W.mg_of X G a20, f__law_great := f21, d__law_great := _, F__law_great := F21, B__law_great := B21, m__law_great := PySem.W.mg_of X G a21, f__law_digit := f22, d__law_digit := _, F__law_digit := F22, B__law_digit := B22, m__law_digit := PySem.W.mg_of X G a22, f__law_rows := f23, d__law_rows := _, F__law_rows := F23, B__law_rows := B23, m__law_rows := PySem.W.mg_of X G a23, f__law_trimmed := f24, d__law_trimmed := _, F__law_trimmed := F24, B__law_trimmed := B24, m__law_trimmed := PySem.W.mg_of X G a24, f__law_choose := f25, d__law_choose := _, F__law_choose := F25, B__law_choose := B25, m__law_choose := PySem.W.mg_of X G a25, f__law_within := f26, d__law_within := _, F__law_within := F26, B__law_within := B26, m__law_within := PySem.W.mg_of X G a26, f__law_weight := f27, d__law_weight := _, F__law_weight := F27, B__law_weight := B27, m__law_weight := PySem.W.mg_of X G a27, f__law_above := f28, d__law_above := _, F__law_above := F28, B__law_above := B28, m__law_above := PySem.W.mg_of X G a28, f__law_by_held := f29, d__law_by_held := _, F__law_by_held := F29, B__law_by_held := B29, m__law_by_held := PySem.W.mg_of X G a29, f__law_ways := f30, d__law_ways := _, F__law_ways := F30, B__law_ways := B30, m__law_ways := PySem.W.mg_of X G a30, f__law_by_floor := f31, d__law_by_floor := _, F__law_by_floor := F31, B__law_by_floor := B31, m__law_by_floor := PySem.W.mg_of X G a31, f__law_one := f32, d__law_one := _, F__law_one := F32, B__law_one := B32, m__law_one := PySem.W.mg_of X G a32, f_law := fa, d_law := _, F_law := F33, B_law := B33, m_law := PySem.W.mg_of X G a33, n_isinstance := PySem.W.mg_none_of X G z0, n_int := PySem.W.mg_none_of X G z1, n_bool := PySem.W.mg_none_of X G z2, n_range := PySem.W.mg_none_of X G z3, n_list := PySem.W.mg_none_of X G z4, n_sum := PySem.W.mg_none_of X G z5, n_enumerate := PySem.W.mg_none_of X G z6, n_tuple := PySem.W.mg_none_of X G z7, n_len := PySem.W.mg_none_of X G z8, n_min := PySem.W.mg_none_of X G z9, n_zip := PySem.W.mg_none_of X G z10, n_max := PySem.W.mg_none_of X G z11, a_WIDE := A_WIDE, m_WIDE := PySem.W.mg_of X G da_WIDE, D_WIDE := dt_WIDE, c_NoBound := C_NoBound, m_NoBound := PySem.W.mg_of X G ca_NoBound, c_NoEnds := C_NoEnds, m_NoEnds := PySem.W.mg_of X G ca_NoEnds, x_NoBound := cx_NoBound, X_NoBound := ⟨xc_NoBound_cl, xc_NoBound_ga, xc_NoBound_gt, xc_NoBound_ca, xc_NoBound_gn, xc_NoBound_tk, xc_NoBound_ob, xc_NoBound_be⟩, x_NoEnds := cx_NoEnds, X_NoEnds := ⟨xc_NoEnds_cl, xc_NoEnds_ga, xc_NoEnds_gt, xc_NoEnds_ca, xc_NoEnds_gn, xc_NoEnds_tk, xc_NoEnds_ob, xc_NoEnds_be⟩ }
  exact ⟨PySem.W.fnOf "law" "law" (defArgs s_law) (defBody s_law) (defScope s_law) .none kV33 dc33 pm33 an33 cd33 ct33, fun s v => .of_eq rfl, fun base _ _ => ok_law T⟩
theorem walk {l : PySem.W.OpenLaw} {q : Program} {loose : List Str} {XP : (Str → Option Value) → Heap → Prop} {YP : World → Heap → Prop} {d : DefRec} {K : Params → PySem.W.Frag} (hn : l.most = some 63) (hdf : d.params.defaults = [])
    (hY : ∀ (w : World) (h : Heap), YP w h → (K w.params).In h)
    (F : ∀ (w : World) (mg : Str → Option Value) (fa : Addr) (h : Heap), (K w.params).In h → h.Ns mainGlobals mg → mg d.name = some (.ref fa) →
      ∃ fd : FuncData, (∀ (s : Shared) (u : Value), BindsTo s fd ⟨[u], []⟩ [("_law_script", u)]) ∧ ∀ base : Heap, (K w.params).In base → base.Ns mainGlobals mg → FnOk l.prog w (K w.params) mg base CX0 57 fa fd ["_law_script"] (sp_law (K w.params))) :
    PySem.W.WalkO q loose XP YP l.row.toRowW d [] (fun f vs => PySem.call f vs) :=
  L2.walk_of (n := 63) (k := 57) (x := "_law_script") (CX := fun _ => CX0) (sp := fun w => sp_law (K w.params)) hn (by decide) hdf ⟨rfl, by decide, by decide⟩ hY F (fun _ _ a ns hl _ hS => ⟨a, ns, rfl, hS, hl, fun _ => rfl⟩) fun _ _ _ _ _ z => z
end Mine
open PySem PySem.W PyProof.Rows
namespace PySem.W.Fast
theorem tw6918211048743992694 : True := trivial
theorem tw17468786721305022108 : True := trivial
theorem tw5750551314965026490 : True := trivial
theorem tw15090818603485819501 : True := trivial
theorem tw11926622811957905360 : True := trivial
theorem tw17634677430604074654 : True := trivial
theorem tw2318871317210125743 : True := trivial
theorem tw17694552702795822641 : True := trivial
theorem tw5182729980138171247 : True := trivial
theorem tw12734460954041145893 : True := trivial
theorem tw3147288312159442900 : True := trivial
theorem tw17054433583173618666 : True := trivial
theorem tw14855978847920888842 : True := trivial
theorem tw8510425687860715194 : True := trivial
theorem tw6001005326946589939 : True := trivial
theorem tw16652550851170925191 : True := trivial
theorem tw17355386453272017711 : True := trivial
theorem tw17707390241389441477 : True := trivial
theorem tw17701260669371842093 : True := trivial
theorem tw2240112479043787788 : True := trivial
theorem tw1947057158161404688 : True := trivial
theorem tw17603756267354090993 : True := trivial
theorem tw16545165055571338087 : True := trivial
theorem tw11311599744820412655 : True := trivial
theorem tw13080142875169199478 : True := trivial
theorem tw8643160840016295712 : True := trivial
theorem tw5662002513823850457 : True := trivial
theorem tw13391812271590120957 : True := trivial
theorem tw12698951155280609307 : True := trivial
theorem tw298781178322577723 : True := trivial
theorem tw474122290212693799 : True := trivial
theorem tw10197229531908116713 : True := trivial
theorem tw15303518483983178001 : True := trivial
theorem tw18202080321291914902 : True := trivial
theorem tw14790906087953042023 : True := trivial
theorem tw5227608316636502730 : True := trivial
theorem tw15549327119872526771 : True := trivial
theorem tw569250844265462290 : True := trivial
theorem tw14869288076721362820 : True := trivial
theorem tw7945891764203280569 : True := trivial
theorem tw2043032140216907354 : True := trivial
theorem tw14158516446668843782 : True := trivial
theorem tw9416250647511125617 : True := trivial
theorem tw17671381054993027367 : True := trivial
theorem tw347950253882368073 : True := trivial
theorem tw14463017242267845416 : True := trivial
theorem tw5710973031604035882 : True := trivial
theorem tw3070721302848910262 : True := trivial
theorem tw43778094911545826 : True := trivial
theorem tw3692770610966070437 : True := trivial
theorem tw6876406331267494278 : True := trivial
theorem tw15634175977528618509 : True := trivial
theorem tw7590164611260545851 : True := trivial
theorem tw14014044884069181796 : True := trivial
theorem tw1007575781072909580 : True := trivial
theorem tw14601511475636701798 : True := trivial
theorem tw13378967575125047916 : True := trivial
theorem tw2579784858944497733 : True := trivial
theorem tw14680990886873183586 : True := trivial
theorem tw4755007959503558785 : True := trivial
theorem tw17905593485009895654 : True := trivial
theorem tw7966186392039466248 : True := trivial
theorem tw16464735385830757950 : True := trivial
theorem tw11836040422855729771 : True := trivial
theorem tw17720828615280654771 : True := trivial
theorem tw7832781282332314140 : True := trivial
theorem tw11304508438845476516 : True := trivial
theorem tw12637865480175791476 : True := trivial
theorem tw3609094638633791674 : True := trivial
theorem tw15699374745941106178 : True := trivial
theorem tw10605554080493000660 : True := trivial
theorem tw2957300837776945069 : True := trivial
theorem tw13318294744531306780 : True := trivial
theorem tw10744684907730186166 : True := trivial
theorem tw10021120354126222561 : True := trivial
theorem tw11775998646666212347 : True := trivial
theorem tw10695406529174547300 : True := trivial
theorem tw12024668426468668958 : True := trivial
theorem tw9106270127177518664 : True := trivial
theorem tw3337618138211257107 : True := trivial
theorem tw8539433810906496618 : True := trivial
theorem tw6424125844356091443 : True := trivial
theorem tw15141703042620603445 : True := trivial
theorem tw11051959596938867225 : True := trivial
theorem tw698013398431911943 : True := trivial
theorem tw16902493524335961277 : True := trivial
theorem tw9505025780788838026 : True := trivial
theorem tw13254513249772960480 : True := trivial
theorem tw4243734136621687113 : True := trivial
theorem tw12105736874681252078 : True := trivial
theorem tw11576513331387550573 : True := trivial
theorem tw3329639803503005365 : True := trivial
theorem tw8874132574347092268 : True := trivial
theorem tw8016509607461302157 : True := trivial
theorem tw1529552707318413407 : True := trivial
theorem tw7260067479746918379 : True := trivial
theorem tw1072671667469811336 : True := trivial
theorem tw8054725760928050572 : True := trivial
theorem tw3481759284220159771 : True := trivial
theorem tw559682861248018002 : True := trivial
theorem tw10753454269241065213 : True := trivial
theorem tw1431015040095110727 : True := trivial
theorem tw10951899697986261421 : True := trivial
theorem tw16229864432294080808 : True := trivial
theorem tw7846647244714489338 : True := trivial
theorem tw10764581575399992494 : True := trivial
theorem tw14794398188072864252 : True := trivial
theorem tw2379156963951349638 : True := trivial
theorem tw14950715619843606274 : True := trivial
theorem tw9700586443796093723 : True := trivial
theorem tw17153752198723200921 : True := trivial
theorem tw11270029977055822957 : True := trivial
theorem tw142645474407130753 : True := trivial
theorem tw11539938423720557691 : True := trivial
theorem tw4854793998878585125 : True := trivial
theorem tw9379760061193100151 : True := trivial
theorem tw6828896877269528093 : True := trivial
theorem tw5263175672115126252 : True := trivial
theorem tw2930052558972965397 : True := trivial
theorem tw16890015743919047746 : True := trivial
theorem tw1201085612898402989 : True := trivial
theorem tw10744979873815858376 : True := trivial
theorem tw6441017468676346326 : True := trivial
theorem tw6377057512689867209 : True := trivial
theorem tw1833135557651618079 : True := trivial
theorem tw17528245291233378263 : True := trivial
theorem tw7098007824152374384 : True := trivial
theorem tw8423330528938516925 : True := trivial
theorem tw10687404647864075799 : True := trivial
theorem tw8261391611589896429 : True := trivial
theorem tw16204718391206577118 : True := trivial
theorem tw10284797366344501865 : True := trivial
theorem tw11103320037220046912 : True := trivial
theorem tw102583516617064544 : True := trivial
theorem tw2266764555927276633 : True := trivial
theorem tw4065456255326673334 : True := trivial
theorem tw17797333022828344894 : True := trivial
theorem tw11713840616713096583 : True := trivial
theorem tw14264114754898157418 : True := trivial
theorem tw11674972267349206745 : True := trivial
theorem tw12542736245162440715 : True := trivial
theorem tw1733188964520894930 : True := trivial
theorem tw15817340552459397690 : True := trivial
theorem tw13108467300482037377 : True := trivial
theorem tw12494490379628170531 : True := trivial
theorem tw5016353316089731526 : True := trivial
theorem tw6874213095619120417 : True := trivial
theorem tw3562406214285648074 : True := trivial
theorem tw16557270901861375926 : True := trivial
theorem tw13500858219423613000 : True := trivial
theorem tw15065707420541002427 : True := trivial
theorem tw2848190410294196296 : True := trivial
theorem tw13670373434384678846 : True := trivial
theorem tw13248842995702555867 : True := trivial
theorem tw16899175364973486022 : True := trivial
theorem tw7012493136322179937 : True := trivial
theorem tw11938237979544752179 : True := trivial
theorem tw15392389664760423337 : True := trivial
theorem tw17889761953318627234 : True := trivial
theorem tw12213663672791250084 : True := trivial
theorem tw2647837271141223685 : True := trivial
theorem tw13439006433228963666 : True := trivial
theorem tw15533124035706104419 : True := trivial
theorem tw10179159129745480766 : True := trivial
theorem tw13150801495757862848 : True := trivial
theorem tw17788188327655859843 : True := trivial
theorem tw12553427008436998347 : True := trivial
theorem tw17112780773374259960 : True := trivial
theorem tw13780067172794218251 : True := trivial
theorem tw8786904190866958315 : True := trivial
theorem tw9814020355676319430 : True := trivial
theorem tw661569678826104448 : True := trivial
theorem tw7618026159756083907 : True := trivial
theorem tw17935374535202550970 : True := trivial
theorem tw14769949758988349722 : True := trivial
theorem tw120898167096834148 : True := trivial
theorem tw14264131168681242461 : True := trivial
theorem tw1385915097483982568 : True := trivial
theorem tw17400460265666695989 : True := trivial
theorem tw12020102864684707351 : True := trivial
theorem tw640947432772127246 : True := trivial
theorem tw2278301196235020188 : True := trivial
theorem tw8791159404897350220 : True := trivial
theorem tw4287478419052523778 : True := trivial
theorem tw3180443871550322041 : True := trivial
theorem tw6557025074648981789 : True := trivial
theorem tw13402445699581028807 : True := trivial
theorem tw18347966365446912697 : True := trivial
theorem tw5520437617662199474 : True := trivial
theorem tw12852884988372423883 : True := trivial
theorem tw16989779964842134075 : True := trivial
theorem tw9590999506170188719 : True := trivial
theorem tw16264051995575326205 : True := trivial
theorem tw922645169242800700 : True := trivial
theorem tw8014755998634232352 : True := trivial
theorem tw11918367322091470953 : True := trivial
theorem tw14902974203466393357 : True := trivial
theorem tw10675894383556682770 : True := trivial
theorem tw2150692501934215482 : True := trivial
theorem tw9668885163749201064 : True := trivial
theorem tw459368961557706893 : True := trivial
theorem tw9019299047780754838 : True := trivial
theorem tw2317011175733738838 : True := trivial
theorem tw3610966165336806023 : True := trivial
theorem tw7781415751066911384 : True := trivial
theorem tw11611733957870735958 : True := trivial
theorem tw12843920374033621421 : True := trivial
theorem tw12840378381174889545 : True := trivial
theorem tw2074735652367251965 : True := trivial
theorem tw17202202872262745596 : True := trivial
theorem tw3204388036814798727 : True := trivial
theorem tw520264319437466428 : True := trivial
theorem tw1333729425604923040 : True := trivial
theorem tw3710881838556938040 : True := trivial
theorem tw16152799641052696091 : True := trivial
theorem tw17266916340262551971 : True := trivial
theorem tw10864433391983186325 : True := trivial
theorem tw798345984243636376 : True := trivial
theorem tw14107517177051625115 : True := trivial
theorem tw8054145337976098619 : True := trivial
theorem tw12830986879315697277 : True := trivial
theorem tw3962743152264484068 : True := trivial
theorem tw444172917289237549 : True := trivial
theorem tw3491967760367911756 : True := trivial
theorem tw880628478726104129 : True := trivial
theorem tw4202938983384454248 : True := trivial
theorem tw3415142796397674862 : True := trivial
theorem tw12789589158112460511 : True := trivial
theorem tw2038697414469340466 : True := trivial
theorem tw4274623127489803976 : True := trivial
theorem tw4376412019187444323 : True := trivial
theorem tw1355210445277840992 : True := trivial
theorem tw15483541181380924775 : True := trivial
theorem tw17362611605098892740 : True := trivial
theorem tw14057690110881000410 : True := trivial
theorem tw1679016135253372844 : True := trivial
theorem tw3860657321907828177 : True := trivial
theorem tw13775388743373015843 : True := trivial
theorem tw13476635537284994817 : True := trivial
theorem tw9293271416052735867 : True := trivial
theorem tw5482332238575139059 : True := trivial
theorem tw8359837911516079576 : True := trivial
theorem tw1714431280310610738 : True := trivial
theorem tw124514103864697864 : True := trivial
theorem tw8563431996490327918 : True := trivial
theorem tw9500705115486425315 : True := trivial
theorem tw16240415904682490969 : True := trivial
theorem tw15211198318571943934 : True := trivial
theorem tw8688743739067268577 : True := trivial
theorem tw14304135276353958918 : True := trivial
theorem tw3897846073009193960 : True := trivial
theorem tw3158331635030866866 : True := trivial
theorem tw10118107143698346263 : True := trivial
theorem tw9316111662858663880 : True := trivial
theorem tw14837567433519791619 : True := trivial
theorem tw16443171656202281337 : True := trivial
theorem tw12519605279737164790 : True := trivial
theorem tw7431422494098979632 : True := trivial
theorem tw7309451566975519213 : True := trivial
theorem tw17474402009897939451 : True := trivial
theorem tw2098962093368581624 : True := trivial
theorem tw15731572700450887605 : True := trivial
end PySem.W.Fast
set_option maxRecDepth 100000 in
set_option maxHeartbeats 0 in
theorem PySem.Challenge.cw_floorcurves_k45_one_step_of_the_sums_holds : PySem.Challenge.rw_floorcurves_k45_one_step_of_the_sums.Holds := by
  w_on; o_law; k_head; (case hw => w_witness2)
  k_fill
  refine Mine.walk (l := PySem.Challenge.rw_floorcurves_k45_one_step_of_the_sums) rfl rfl (fun w h Y => PySem.W.kIn_of Y) ?F
  case F =>
    intro w mg fa h KX G hmg
    refine' Mine.all_mk KX G hmg ?a0 ?l0 ?c0 ?k0 ?a1 ?l1 ?c1 ?k1 ?a2 ?l2 ?c2 ?k2 ?a3 ?l3 ?c3 ?k3 ?a4 ?l4 ?c4 ?k4 ?a5 ?l5 ?c5 ?k5 ?a6 ?l6 ?c6 ?k6 ?a7 ?l7 ?c7 ?k7 ?a8 ?l8 ?c8 ?k8 ?a9 ?l9 ?c9 ?k9 ?a10 ?l10 ?c10 ?k10 ?a11 ?l11 ?c11 ?k11 ?a12 ?l12 ?c12 ?k12 ?a13 ?l13 ?c13 ?k13 ?a14 ?l14 ?c14 ?k14 ?a15 ?l15 ?c15 ?k15 ?a16 ?l16 ?c16 ?k16 ?a17 ?l17 ?c17 ?k17 ?a18 ?l18 ?c18 ?k18 ?a19 ?l19 ?c19 ?k19 ?a20 ?l20 ?c20 ?k20 ?a21 ?l21 ?c21 ?k21 ?a22 ?l22 ?c22 ?k22 ?a23 ?l23 ?c23 ?k23 ?a24 ?l24 ?c24 ?k24 ?a25 ?l25 ?c25 ?k25 ?a26 ?l26 ?c26 ?k26 ?a27 ?l27 ?c27 ?k27 ?a28 ?l28 ?c28 ?k28 ?a29 ?l29 ?c29 ?k29 ?a30 ?l30 ?c30 ?k30 ?a31 ?l31 ?c31 ?k31 ?a32 ?l32 ?c32 ?k32 ?a33 ?l33 ?c33 ?k33 ?z0 ?z1 ?z2 ?z3 ?z4 ?z5 ?z6 ?z7 ?z8 ?z9 ?z10 ?z11 ?da_WIDE ?dt_WIDE ?ca_NoBound ?ca_NoEnds ?cx_NoBound ?xc_NoBound_cl ?xc_NoBound_ga ?xc_NoBound_gt ?xc_NoBound_ca ?xc_NoBound_gn ?xc_NoBound_tk ?xc_NoBound_ob ?xc_NoBound_be ?cx_NoEnds ?xc_NoEnds_cl ?xc_NoEnds_ga ?xc_NoEnds_gt ?xc_NoEnds_ca ?xc_NoEnds_gn ?xc_NoEnds_tk ?xc_NoEnds_ob ?xc_NoEnds_be
    (case a0 => k_is)
    (case l0 => k_is)
    (case c0 => k_is)
    (case k0 => k_is)
    (case a1 => k_is)
    (case l1 => k_is)
    (case c1 => k_is)
    (case k1 => k_is)
    (case a2 => k_is)
    (case l2 => k_is)
    (case c2 => k_is)
    (case k2 => k_is)
    (case a3 => k_is)
    (case l3 => k_is)
    (case c3 => k_is)
    (case k3 => k_is)
    (case a4 => k_is)
    (case l4 => k_is)
    (case c4 => k_is)
    (case k4 => k_is)
    (case a5 => k_is)
    (case l5 => k_is)
    (case c5 => k_is)
    (case k5 => k_is)
    (case a6 => k_is)
    (case l6 => k_is)
    (case c6 => k_is)
    (case k6 => k_is)
    (case a7 => k_is)
    (case l7 => k_is)
    (case c7 => k_is)
    (case k7 => k_is)
    (case a8 => k_is)
    (case l8 => k_is)
    (case c8 => k_is)
    (case k8 => k_is)
    (case a9 => k_is)
    (case l9 => k_is)
    (case c9 => k_is)
    (case k9 => k_is)
    (case a10 => k_is)
    (case l10 => k_is)
    (case c10 => k_is)
    (case k10 => k_is)
    (case a11 => k_is)
    (case l11 => k_is)
    (case c11 => k_is)
    (case k11 => k_is)
    (case a12 => k_is)
    (case l12 => k_is)
    (case c12 => k_is)
    (case k12 => k_is)
    (case a13 => k_is)
    (case l13 => k_is)
    (case c13 => k_is)
    (case k13 => k_is)
    (case a14 => k_is)
    (case l14 => k_is)
    (case c14 => k_is)
    (case k14 => k_is)
    (case a15 => k_is)
    (case l15 => k_is)
    (case c15 => k_is)
    (case k15 => k_is)
    (case a16 => k_is)
    (case l16 => k_is)
    (case c16 => k_is)
    (case k16 => k_is)
    (case a17 => k_is)
    (case l17 => k_is)
    (case c17 => k_is)
    (case k17 => k_is)
    (case a18 => k_is)
    (case l18 => k_is)
    (case c18 => k_is)
    (case k18 => k_is)
    (case a19 => k_is)
    (case l19 => k_is)
    (case c19 => k_is)
    (case k19 => k_is)
    (case a20 => k_is)
    (case l20 => k_is)
    (case c20 => k_is)
    (case k20 => k_is)
    (case a21 => k_is)
    (case l21 => k_is)
    (case c21 => k_is)
    (case k21 => k_is)
    (case a22 => k_is)
    (case l22 => k_is)
    (case c22 => k_is)
    (case k22 => k_is)
    (case a23 => k_is)
    (case l23 => k_is)
    (case c23 => k_is)
    (case k23 => k_is)
    (case a24 => k_is)
    (case l24 => k_is)
    (case c24 => k_is)
    (case k24 => k_is)
    (case a25 => k_is)
    (case l25 => k_is)
    (case c25 => k_is)
    (case k25 => k_is)
    (case a26 => k_is)
    (case l26 => k_is)
    (case c26 => k_is)
    (case k26 => k_is)
    (case a27 => k_is)
    (case l27 => k_is)
    (case c27 => k_is)
    (case k27 => k_is)
    (case a28 => k_is)
    (case l28 => k_is)
    (case c28 => k_is)
    (case k28 => k_is)
    (case a29 => k_is)
    (case l29 => k_is)
    (case c29 => k_is)
    (case k29 => k_is)
    (case a30 => k_is)
    (case l30 => k_is)
    (case c30 => k_is)
    (case k30 => k_is)
    (case a31 => k_is)
    (case l31 => k_is)
    (case c31 => k_is)
    (case k31 => k_is)
    (case a32 => k_is)
    (case l32 => k_is)
    (case c32 => k_is)
    (case k32 => k_is)
    (case a33 => k_is)
    (case l33 => k_is)
    (case c33 => k_is)
    (case k33 => k_is)
    (case z0 => k_is)
    (case z1 => k_is)
    (case z2 => k_is)
    (case z3 => k_is)
    (case z4 => k_is)
    (case z5 => k_is)
    (case z6 => k_is)
    (case z7 => k_is)
    (case z8 => k_is)
    (case z9 => k_is)
    (case z10 => k_is)
    (case z11 => k_is)
    (case da_WIDE => k_is)
    (case dt_WIDE => first | k_is | kit_is | kts_exm | kernel_rfl)
    (case ca_NoBound => first | k_is | kit_is | kts_exm | kernel_rfl)
    (case ca_NoEnds => first | k_is | kit_is | kts_exm | kernel_rfl)
    (case cx_NoBound => first | k_is | kit_is | kts_exm | kernel_rfl)
    (case xc_NoBound_cl => first | k_is | kit_is | kts_exm | kernel_rfl)
    (case xc_NoBound_ga => first | k_is | kit_is | kts_exm | kernel_rfl)
    (case xc_NoBound_gt => first | k_is | kit_is | kts_exm | kernel_rfl)
    (case xc_NoBound_ca => first | k_is | kit_is | kts_exm | kernel_rfl)
    (case xc_NoBound_gn => first | k_is | kit_is | kts_exm | kernel_rfl)
    (case xc_NoBound_tk => first | k_is | kit_is | kts_exm | kernel_rfl)
    (case xc_NoBound_ob => first | k_is | kit_is | kts_exm | kernel_rfl)
    (case xc_NoBound_be => first | k_is | kit_is | kts_exm | kernel_rfl)
    (case cx_NoEnds => first | k_is | kit_is | kts_exm | kernel_rfl)
    (case xc_NoEnds_cl => first | k_is | kit_is | kts_exm | kernel_rfl)
    (case xc_NoEnds_ga => first | k_is | kit_is | kts_exm | kernel_rfl)
    (case xc_NoEnds_gt => first | k_is | kit_is | kts_exm | kernel_rfl)
    (case xc_NoEnds_ca => first | k_is | kit_is | kts_exm | kernel_rfl)
    (case xc_NoEnds_gn => first | k_is | kit_is | kts_exm | kernel_rfl)
    (case xc_NoEnds_tk => first | k_is | kit_is | kts_exm | kernel_rfl)
    (case xc_NoEnds_ob => first | k_is | kit_is | kts_exm | kernel_rfl)
    (case xc_NoEnds_be => first | k_is | kit_is | kts_exm | kernel_rfl)
#print axioms PySem.Challenge.cw_floorcurves_k45_one_step_of_the_sums_holds
