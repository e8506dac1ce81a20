import PyProof.Rows.All
import Wide.All
import OpenK.AllK
import Wide.FinOn
import PySem.Challenge.RW_floorcurves_k26_whole_by_ways
import Lean
import PyProof.EqAt
import PyProof.EqKinds
import PyProof.TupleCall
local macro_rules | `(tactic| omega) => `(tactic| lia)
set_option pp.maxSteps 400
set_option Elab.async false
set_option linter.all false
set_option maxRecDepth 100000
set_option maxHeartbeats 4000000
-- CHANGE: your row's module here, as the last of these rows
set_option Elab.async false
set_option linter.all false
set_option maxRecDepth 100000
/-! THE HAND LAYER, for ints, bools, texts, own classes, LISTS and tuples (index, slices, in, append, pop ..), calls, loops. Paste it whole ahead of your own text; what your proof does not reach may be deleted. -/
namespace L2
open PySem PySem.Spec PyProof.Rows

/-- a key: an int or a str -/
abbrev Key := Sum Int Str
def keyIs : Key → Value → Bool
  | .inl k, v => Value.isInt k v
  | .inr x, v => Value.isStrOf x v
def keyH (w : World) : Key → Int
  | .inl k => hashInt k
  | .inr x => hashStr w x
theorem keyIs_shape : ∀ {k : Key} {v : Value}, keyIs k v = true → (∃ i t, k = Sum.inl i ∧ v = Value.int i t) ∨ (∃ x t, k = Sum.inr x ∧ v = Value.str x t)
  | .inl i, v, h => by
    obtain ⟨t, e⟩ := Value.isInt_shape (k := i) (v := v) h
    exact .inl ⟨i, t, rfl, e⟩
  | .inr x, v, h => by
    obtain ⟨t, e⟩ := Value.isStrOf_shape (x := x) (v := v) h
    exact .inr ⟨x, t, rfl, e⟩
theorem key_ll (a b : Int) : decide ((Sum.inl a : Key) = Sum.inl b) = (a == b) := by
  by_cases e : a = b
  · subst e; simp
  · have h : ¬ (Sum.inl a : Key) = Sum.inl b := fun q => e (Sum.inl.inj q)
    rw [decide_eq_false h]
    exact (beq_eq_false_iff_ne.mpr e).symm
theorem key_rr (a b : Str) : decide ((Sum.inr a : Key) = Sum.inr b) = decide (a = b) := by
  by_cases e : a = b
  · subst e; simp
  · have h : ¬ (Sum.inr a : Key) = Sum.inr b := fun q => e (Sum.inr.inj q)
    rw [decide_eq_false h, decide_eq_false e]
theorem key_lr (a : Int) (b : Str) : decide ((Sum.inl a : Key) = Sum.inr b) = false := decide_eq_false (fun q => nomatch q)
theorem key_rl (a : Str) (b : Int) : decide ((Sum.inr a : Key) = Sum.inl b) = false := decide_eq_false (fun q => nomatch q)

def mixKind (prog : Program) (w : World) : PySem.KeyKind prog w Key where
  is := keyIs
  hash := keyH w
  inj := fun v a b ha hb => by
    rcases keyIs_shape ha with ⟨i, t, rfl, rfl⟩ | ⟨x, t, rfl, rfl⟩
    · rcases keyIs_shape hb with ⟨j, u, rfl, e⟩ | ⟨y, u, rfl, e⟩
      · injection e with e1 _; rw [e1]
      · exact nomatch e
    · rcases keyIs_shape hb with ⟨j, u, rfl, e⟩ | ⟨y, u, rfl, e⟩
      · exact nomatch e
      · injection e with e1 _; rw [e1]
  byValue := fun k v h => by
    rcases keyIs_shape h with ⟨i, t, rfl, rfl⟩ | ⟨x, t, rfl, rfl⟩ <;> rfl
  pyHash := fun hv h => by
    rcases keyIs_shape hv with ⟨i, t, rfl, rfl⟩ | ⟨x, t, rfl, rfl⟩
    · exact wpAny_pyHash_int h
    · exact wpAny_pyHash_str h
  eqBool := fun hu hv h => by
    rcases keyIs_shape hu with ⟨i, t, rfl, rfl⟩ | ⟨x, t, rfl, rfl⟩
    · rcases keyIs_shape hv with ⟨j, u, rfl, rfl⟩ | ⟨y, u, rfl, rfl⟩
      · rw [key_ll] at h; exact wpAny_eqBool_int h
      · rw [key_lr] at h; exact SeqAt.EqAt.int_str i t y u _ _ _ _ h
    · rcases keyIs_shape hv with ⟨j, u, rfl, rfl⟩ | ⟨y, u, rfl, rfl⟩
      · rw [key_rl] at h; exact SeqAt.EqAt.str_int x t j u _ _ _ _ h
      · rw [key_rr] at h; exact wpAny_eqBool_str h
  «strs» := fun k x t v h => by
    rcases keyIs_shape h with ⟨i, u, rfl, e⟩ | ⟨y, u, rfl, e⟩
    · exact nomatch e
    · injection e with e1 _
      subst e1
      cases v <;> rfl

end L2

namespace L2
open PySem PySem.Spec PyProof.Rows

/-- a value, without the heap -/
inductive V where
  | non | bl (b : Bool) | int (i : Int) | str (x : Str) | byt (b : Array UInt8) | flt (b : UInt64) | ref (a : Addr) | ty (n : String)
  deriving DecidableEq

def RelV : V → Value → Prop
  | .non, u => u = Value.none
  | .bl b, u => u = Value.bool b
  | .int i, u => ∃ t, u = Value.int i t
  | .str x, u => ∃ t, u = Value.str x t
  | .byt b, u => ∃ t, u = Value.bytes b t
  | .flt b, u => ∃ t, u = Value.float b t
  | .ref a, u => u = Value.ref a
  | .ty n, u => u = Value.type n

abbrev Vals : List V → List Value → Prop := Paired RelV
theorem Vals.length {xs : List V} {us : List Value} (r : Vals xs us) : xs.length = us.length := Paired.length r
theorem Vals.get : ∀ {xs : List V} {us : List Value} {i : Nat} {x : V}, Vals xs us → xs[i]? = some x → ∃ u, us[i]? = some u ∧ RelV x u
  | _, _, _, _, .nil, e => by simp at e
  | _, _, 0, _, .cons r _, e => by simp at e; subst e; exact ⟨_, rfl, r⟩
  | _, _, i + 1, x, .cons _ t, e => by
    obtain ⟨u, h1, h2⟩ := Vals.get (i := i) (x := x) t (by simpa using e)
    exact ⟨u, by simpa using h1, h2⟩
theorem Vals.set {x : V} {u : Value} (r : RelV x u) : ∀ {xs : List V} {us : List Value} (i : Nat), Vals xs us → Vals (xs.set i x) (us.set i u)
  | _, _, _, .nil => .nil
  | _, _, 0, .cons _ t => .cons r t
  | _, _, i + 1, .cons q t => .cons q (Vals.set r i t)
theorem Vals.append : ∀ {xs ys : List V} {us ws : List Value}, Vals xs us → Vals ys ws → Vals (xs ++ ys) (us ++ ws)
  | _, _, _, _, .nil, s => s
  | _, _, _, _, .cons r t, s => .cons r (Vals.append t s)
theorem Vals.take : ∀ {xs : List V} {us : List Value} (n : Nat), Vals xs us → Vals (xs.take n) (us.take n)
  | _, _, 0, _ => .nil
  | _, _, _ + 1, .nil => .nil
  | _, _, n + 1, .cons r t => .cons r (Vals.take n t)
theorem Vals.drop : ∀ {xs : List V} {us : List Value} (n : Nat), Vals xs us → Vals (xs.drop n) (us.drop n)
  | _, _, 0, r => r
  | _, _, _ + 1, .nil => .nil
  | _, _, n + 1, .cons _ t => Vals.drop n t
def RelO : Option V → Option Value → Prop
  | some v, some u => RelV v u
  | none, none => True
  | _, _ => False
def KV {κ : Type} : List (κ × V) → List (κ × Value) → Prop := Paired fun (p : κ × V) (q : κ × Value) => p.1 = q.1 ∧ RelV p.2 q.2

/-- a key of a dict (00_mix): an int or a text -/
def kV : Key → V
  | .inl i => .int i
  | .inr x => .str x

/-- what stands at a tracked address -/
inductive HO where
  /-- a list -/
  | lst (xs : List V)
  /-- a tuple (never changes) -/
  | tup (xs : List V)
  /-- a dict whose keys are ints and texts; one whose keys are tuples of ints and texts (the empty one is both) -/
  | dK (kvs : List (Key × V)) | dT (kvs : List (List Key × V))
  /-- a set of ints: its members, its size -/
  | set (S : Int → Bool) (n : Nat)
  /-- an instance of the class at C, its dict at dx, its attributes -/
  | ins (C dx : Addr) (fs : List (Str × V))
  /-- the dict of the instance at x -/
  | own (x : Addr)
  /-- the dict of an exception -/
  | xd (fs : List (Str × V))
  /-- a bound method, f of x -/
  | met (f x : Addr)
  /-- a range object lo, lo + 1, .. below hi -/
  | rng (lo hi : Int)
  /-- a thing that is known to the object (the script; a dict while a loop walks it): read, never written while it is so -/
  | frz (o : Obj) (u : HO)
  /-- a code object's table -/
  | tbl (ps : Array Value)
  /-- any other thing, by what is true of its one object (a def of one's own: SetO a S n := HO.ext fun h => ..) -/
  | ext (φ : Heap → Prop)

abbrev Hp := Addr → Option HO
def upd (H : Hp) (a : Addr) (o : HO) : Hp := fun b => if b = a then some o else H b
theorem upd_same {H : Hp} {a : Addr} {o : HO} : upd H a o a = some o := by unfold upd; rw [if_pos rfl]
theorem upd_ne {H : Hp} {a b : Addr} {o : HO} (h : b ≠ a) : upd H a o b = H b := by unfold upd; rw [if_neg h]
theorem ne_of_none {H : Hp} {a b : Addr} {o : HO} (h : H a = some o) (h' : H b = none) : a ≠ b := by
  intro e; subst e; rw [h] at h'; cases h'

section
variable (P : Program) (w : World)
def ObjOk (H : Hp) (h : Heap) (a : Addr) : HO → Prop
  | .lst xs => xs.length ≤ sizeLine ∧ ∃ (its : List Value) (n : Nat), Vals xs its ∧ h.get? a = some { cls := .type "list", data := .seq its.toArray n }
  | .tup xs => xs.length ≤ sizeLine ∧ ∃ its : List Value, Vals xs its ∧ IsTup h a its.toArray
  | .dK kvs => kvs.length ≤ sizeLine ∧ (a == sysModules) = false ∧ ∃ vs, KV kvs vs ∧ h.DictOf (mixKind P w) a vs
  | .dT kvs => kvs.length ≤ sizeLine ∧ (a == sysModules) = false ∧ ∃ xs : List (List Key × Addr × Value),
      Paired (fun (p : List Key × V) (q : List Key × Addr × Value) => p.1 = q.1 ∧ H q.2.1 = some (.tup (p.1.map kV)) ∧ RelV p.2 q.2.2) kvs xs ∧
      ∃ o es ep, h.get? a = some o ∧ o.ExactDict ∧ o.data = .dict es ep ∧ es.toList = xs.map (entryOfKey (tupleKind (mixKind P w))) ∧ (xs.map (·.1)).Nodup
  | .set S n => h.SetOf (intKind P w) a S n
  | .ins C dx fs => H dx = some (.own a) ∧ fs.length ≤ 1000 ∧ dx ≠ a ∧ h.get? a = some (PySem.W.instObj C dx) ∧
      ∃ mA, h.Ns1 dx mA ∧ (∀ f, RelO (fs.lookup f) (mA f)) ∧ PySem.Within mA (fs.map (·.1))
  | .own _ => ∃ o, h.get? a = some o
  | .xd fs => ∃ mA, h.Ns1 a mA ∧ ∀ f, RelO (fs.lookup f) (mA f)
  | .rng lo hi => ∃ t u v, h.get? a = some { cls := .type "range", data := .fields #[.int lo t, .int hi u, .int 1 v] }
  | .frz o u => h.get? a = some o ∧ ObjOk H h a u
  | .tbl ps => h.get? a = some { cls := .none, data := .fields ps }
  | .met f x => h.get? a = some (PySem.W.methodObj (.ref f) (.ref x))
  | .ext φ => φ h ∧ (∃ o, h.get? a = some o) ∧ ∀ h1 h2 : Heap, φ h1 → (∀ o, h1.get? a = some o → h2.get? a = some o) → φ h2
/-- the abstract heap is held -/
def HOk (H : Hp) (h : Heap) : Prop := ∀ a o, H a = some o → ObjOk P w H h a o
end

section
variable {P : Program} {w : World} {H H' : Hp} {h h' : Heap} {a : Addr} {o : HO}
theorem ObjOk.lt (x : ObjOk P w H h a o) : a < h.objs.size := by
  cases o with
  | lst xs => obtain ⟨_, _, _, _, e⟩ := x; exact Heap.lt_size e
  | tup xs => obtain ⟨_, _, _, p⟩ := x; exact p.lt
  | dK kvs => obtain ⟨_, _, _, _, o, _, _, e, _⟩ := x; exact Heap.lt_size e
  | dT kvs => obtain ⟨_, _, _, _, o, _, _, e, _⟩ := x; exact Heap.lt_size e
  | set S n => obtain ⟨o, _, _, _, e, _⟩ := x; exact Heap.lt_size e
  | ins C dx fs => obtain ⟨_, _, _, e, _⟩ := x; exact Heap.lt_size e
  | own y => obtain ⟨_, e⟩ := x; exact Heap.lt_size e
  | xd fs => obtain ⟨_, ⟨_, _, _, e, _⟩, _⟩ := x; exact Heap.lt_size e
  | rng lo hi => obtain ⟨_, _, _, e⟩ := x; exact Heap.lt_size e
  | frz ob u => obtain ⟨e, _⟩ := x; exact Heap.lt_size e
  | tbl ps => exact Heap.lt_size (show h.get? a = some _ from x)
  | met f y => exact Heap.lt_size (show h.get? a = some _ from x)
  | ext φ => obtain ⟨_, ⟨_, e⟩, _⟩ := x; exact Heap.lt_size e
theorem Paired.mapP {α β : Type} {F G : α → β → Prop} : ∀ {l₁ : List α} {l₂ : List β}, Paired F l₁ l₂ → (∀ a b, F a b → G a b) → Paired G l₁ l₂
  | _, _, .nil, _ => .nil
  | _, _, .cons r t, f => .cons (f _ _ r) (Paired.mapP t f)
/-- what an object's description leans on: its own object, its own dict, the tuples -/
theorem ObjOk.stay (x : ObjOk P w H h a o) (k : ∀ b u, (b = a ∨ H b = some (.own a)) → h.get? b = some u → h'.get? b = some u)
    (ho : ∀ b, H b = some (.own a) → H' b = some (.own a)) (ht : ∀ b xs, H b = some (.tup xs) → H' b = some (.tup xs)) : ObjOk P w H' h' a o := by
  induction o with
  | lst xs => obtain ⟨z, its, n, r, e⟩ := x; exact ⟨z, its, n, r, k _ _ (.inl rfl) e⟩
  | tup xs => obtain ⟨z, its, r, ob, e, c⟩ := x; exact ⟨z, its, r, ob, k _ _ (.inl rfl) e, c⟩
  | dK kvs => obtain ⟨z, y, vs, r, ob, es, ep, e, c⟩ := x; exact ⟨z, y, vs, r, ob, es, ep, k _ _ (.inl rfl) e, c⟩
  | dT kvs =>
    obtain ⟨z, y, xs, r, ob, es, ep, e, c⟩ := x
    exact ⟨z, y, xs, Paired.mapP r fun p q z => ⟨z.1, ht _ _ z.2.1, z.2.2⟩, ob, es, ep, k _ _ (.inl rfl) e, c⟩
  | set S n => obtain ⟨ob, es, ep, t, e, c⟩ := x; exact ⟨ob, es, ep, t, k _ _ (.inl rfl) e, c⟩
  | ins C dx fs =>
    obtain ⟨d, z, ne, e, mA, ⟨od, es, ep, e2, c⟩, r⟩ := x
    exact ⟨ho _ d, z, ne, k _ _ (.inl rfl) e, mA, ⟨od, es, ep, k _ _ (.inr d) e2, c⟩, r⟩
  | own y => obtain ⟨ob, e⟩ := x; exact ⟨ob, k _ _ (.inl rfl) e⟩
  | xd fs => obtain ⟨mA, ⟨od, es, ep, e, c⟩, r⟩ := x; exact ⟨mA, ⟨od, es, ep, k _ _ (.inl rfl) e, c⟩, r⟩
  | rng lo hi => obtain ⟨t, u, v, e⟩ := x; exact ⟨t, u, v, k _ _ (.inl rfl) e⟩
  | frz ob u ih => obtain ⟨e, q⟩ := x; exact ⟨k _ _ (.inl rfl) e, ih q⟩
  | tbl ps =>
    have e : h.get? a = some { cls := .none, data := .fields ps } := x
    show h'.get? a = some { cls := .none, data := .fields ps }
    exact k a _ (.inl rfl) e
  | met f y =>
    have e : h.get? a = some (PySem.W.methodObj (.ref f) (.ref y)) := x
    show h'.get? a = some (PySem.W.methodObj (.ref f) (.ref y))
    exact k a _ (.inl rfl) e
  | ext φ => obtain ⟨p, ⟨o, e⟩, st⟩ := x; exact ⟨st _ _ p fun o q => k _ _ (.inl rfl) q, ⟨o, k _ _ (.inl rfl) e⟩, st⟩
theorem HOk.lt (x : HOk P w H h) (e : H a = some o) : a < h.objs.size := (x a o e).lt
theorem HOk.fresh (x : HOk P w H h) (e : h.objs.size ≤ a) : H a = none := by
  cases q : H a with
  | none => rfl
  | some u => exact absurd (Nat.lt_of_lt_of_le (x.lt q) e) (Nat.lt_irrefl _)
/-- every object of the heap is kept -/
theorem HOk.kept (x : HOk P w H h) (k : ∀ b u, h.get? b = some u → h'.get? b = some u) : HOk P w H h' := fun a o e =>
  (x a o e).stay (fun b u _ q => k b u q) (fun _ q => q) fun _ _ q => q
/-- a new object is laid and tracked -/
theorem HOk.laid (x : HOk P w H h) (k : ∀ b u, h.get? b = some u → h'.get? b = some u) (hp : h.objs.size ≤ a) (new : ObjOk P w (upd H a o) h' a o) : HOk P w (upd H a o) h' := fun b u e => by
  have hn := x.fresh hp
  by_cases hb : b = a
  · subst hb; rw [upd_same] at e; cases e; exact new
  · rw [upd_ne hb] at e
    exact (x b u e).stay (fun c v _ q => k c v q) (fun c q => by rw [upd_ne (ne_of_none q hn)]; exact q) fun c xs q => by rw [upd_ne (ne_of_none q hn)]; exact q
end

/-- what may be read as u: it is u, or a known u -/
def Rd (H : Hp) (a : Addr) (u : HO) : Prop := H a = some u ∨ ∃ o, H a = some (.frz o u)
theorem Rd.ok {P : Program} {w : World} {H : Hp} {h : Heap} {a : Addr} {u : HO} (r : Rd H a u) (x : HOk P w H h) : ObjOk P w H h a u := by
  rcases r with r | ⟨o, r⟩
  · exact x a u r
  · obtain ⟨_, q⟩ := x a _ r
    exact q
/-- what may be written -/
def Mut : Option HO → Prop
  | some (.lst _) => True
  | some (.dK _) => True
  | some (.dT _) => True
  | some (.set _ _) => True
  | some (.ins _ _ _) => True
  | some (.ext _) => True
  | _ => False
section
variable {P : Program} {w : World} {H : Hp} {h h' : Heap} {x e : Addr} {o' : HO}
/-- the object at e is changed: x itself, or the dict of the instance x -/
theorem HOk.write (ok : HOk P w H h) (mu : Mut (H x)) (he : e = x ∨ H e = some (.own x)) (k : ∀ b u, b ≠ e → h.get? b = some u → h'.get? b = some u) (heo : ∃ u, h'.get? e = some u)
    (new : ObjOk P w (upd H x o') h' x o') : HOk P w (upd H x o') h' := fun b u q => by
  have nown : ∀ c y, H c = some (.own y) → c ≠ x := fun c y r z => by subst z; rw [r] at mu; exact mu
  have ntup : ∀ c xs, H c = some (.tup xs) → c ≠ x := fun c xs r z => by subst z; rw [r] at mu; exact mu
  by_cases hb : b = x
  · subst hb; rw [upd_same] at q; cases q; exact new
  · rw [upd_ne hb] at q
    by_cases hbe : b = e
    · have q' : H b = some (.own x) := by
        rcases he with z | z
        · exact absurd (hbe.trans z) hb
        · rw [hbe]; exact z
      rw [q] at q'; cases q'
      obtain ⟨v, hv⟩ := heo
      exact ⟨v, by rw [hbe]; exact hv⟩
    · refine (ok b u q).stay (fun c v hc r => k c v ?_ r) (fun c r => by rw [upd_ne (nown c b r)]; exact r) fun c xs r => by rw [upd_ne (ntup c xs r)]; exact r
      rcases hc with rfl | hc
      · exact hbe
      · rintro rfl
        rcases he with z | z
        · exact nown c b hc z
        · rw [hc] at z; cases z; exact hb rfl
end

/-! ### kept unless tracked; of the frames at fs (the callers') the slots may change (an exception that passes writes there); of the records at ex (iterators) nothing is said -/
structure Un (fs ex : List Addr) (H H' : Hp) (h h' : Heap) : Prop where
  keep : ∀ b o, h.get? b = some o → H b = none → b ∉ fs → b ∉ ex → h'.get? b = some o
  slot : ∀ b o, h.get? b = some o → H b = none → b ∈ fs → b ∉ ex → ∃ sl, h'.get? b = some { o with slots := sl }
  free : ∀ b o, h.get? b = some o → H b = none → b ∉ ex → H' b = none
  there : ∀ b o, h.get? b = some o → b ∉ ex → ∃ o', h'.get? b = some o'
  tups : ∀ b xs, H b = some (.tup xs) → H' b = some (.tup xs)
  frzs : ∀ b o u, H b = some (.frz o u) → H' b = some (.frz o u)
  tbls : ∀ b ps, H b = some (.tbl ps) → ∃ more, H' b = some (.tbl (ps ++ more))
section
variable {fs fs' ex ex' : List Addr} {H H1 H2 : Hp} {h h1 h2 h' : Heap} {a x e : Addr} {o : HO}
theorem Un.any (u : Un fs ex H H1 h h1) {b : Addr} {ob : Obj} (q : h.get? b = some ob) (n : H b = none) (hx : b ∉ ex) : ∃ sl, h1.get? b = some { ob with slots := sl } := by
  by_cases hb : b ∈ fs
  · exact u.slot b ob q n hb hx
  · exact ⟨ob.slots, u.keep b ob q n hb hx⟩
theorem Un.kept (k : ∀ b u, h.get? b = some u → h'.get? b = some u) : Un fs ex H H h h' :=
  ⟨fun b ob q _ _ _ => k b ob q, fun b ob q _ _ _ => ⟨ob.slots, k b ob q⟩, fun _ _ _ n _ => n, fun b ob q _ => ⟨ob, k b ob q⟩, fun _ _ q => q, fun _ _ _ q => q, fun _ ps q => ⟨#[], by rw [q]; simp⟩⟩
theorem Un.refl : Un fs ex H H h h := Un.kept fun _ _ q => q
theorem Un.laid (k : ∀ b u, h.get? b = some u → h'.get? b = some u) (hp : h.objs.size ≤ a) (hn : H a = none) : Un fs ex H (upd H a o) h h' where
  keep := fun b u q _ _ _ => k b u q
  slot := fun b u q _ _ _ => ⟨u.slots, k b u q⟩
  free := fun b u q n _ => by rw [upd_ne (Nat.ne_of_lt (Nat.lt_of_lt_of_le (Heap.lt_size q) hp))]; exact n
  there := fun b u q _ => ⟨u, k b u q⟩
  tups := fun b xs q => by rw [upd_ne (ne_of_none q hn)]; exact q
  frzs := fun b u xs q => by rw [upd_ne (ne_of_none q hn)]; exact q
  tbls := fun b ps q => ⟨#[], by rw [upd_ne (ne_of_none q hn), q]; simp⟩
theorem Un.write (mu : Mut (H x)) (he : e = x ∨ H e = some (.own x)) (k : ∀ b u, b ≠ e → h.get? b = some u → h'.get? b = some u) (heo : ∃ u, h'.get? e = some u) : Un fs ex H (upd H x o) h h' := by
  have hx : ∀ b, H b = none → b ≠ x := fun b n z => by subst z; rw [n] at mu; exact mu
  have hb : ∀ b, H b = none → b ≠ e := fun b n z => by
    subst z
    rcases he with r | r
    · exact hx b n r
    · rw [n] at r; cases r
  have hm : ∀ b u, H b = some u → ¬ Mut (some u) → b ≠ x := fun b u q nm z => by subst z; rw [q] at mu; exact nm mu
  refine ⟨fun b u q n _ _ => k b u (hb b n) q, fun b u q n _ _ => ⟨u.slots, k b u (hb b n) q⟩, fun b u q n _ => by rw [upd_ne (hx b n)]; exact n, fun b u q _ => ?_,
    fun b xs q => by rw [upd_ne (hm b _ q fun z => z)]; exact q, fun b u xs q => by rw [upd_ne (hm b _ q fun z => z)]; exact q, fun b ps q => ⟨#[], by rw [upd_ne (hm b _ q fun z => z), q]; simp⟩⟩
  by_cases hbe : b = e
  · subst hbe; exact heo
  · exact ⟨u, k b u hbe q⟩
end

/-! ### the heap without what is tracked -/
def trk (h : Heap) (H : Hp) : List Addr := (List.range h.objs.size).filter fun a => (H a).isSome
def hidT (h : Heap) (H : Hp) : Heap := PySem.W.hideAll h (trk h H)
theorem hidT_size (h : Heap) (H : Hp) : (hidT h H).objs.size = h.objs.size := PySem.W.hideAll_size _ _
theorem hidT_get {h : Heap} {H : Hp} {b : Addr} {o : Obj} (e : h.get? b = some o) (n : H b = none) : (hidT h H).get? b = some o :=
  PySem.W.hideAll_get _ e fun hm => by
    have q : (H b).isSome = true := (List.mem_filter.mp hm).2
    rw [n] at q; simp at q
theorem of_hidT {h : Heap} {H : Hp} {b : Addr} {o : Obj} (e : (hidT h H).get? b = some o) : h.get? b = some o ∧ H b = none := by
  have e' : h.get? b = some o := PySem.W.of_hideAll (trk h H) e
  refine ⟨e', ?_⟩
  cases q : H b with
  | none => rfl
  | some x =>
    have hm : b ∈ trk h H := List.mem_filter.mpr ⟨List.mem_range.mpr (Heap.lt_size e'), by simp [q]⟩
    have z : (hidT h H).get? b = none := PySem.W.hideAll_none (trk h H) hm
    rw [z] at e; cases e

/-! ### OpenK's ledger, filled with every new object but one -/
def allNews (g h : Heap) (L : Addr) : List (Addr × Obj) := (List.range h.objs.size).filterMap fun a => if a = L ∨ (g.get? a).isSome = true then none else (h.get? a).map fun o => (a, o)
def rest (g h : Heap) (L d : Addr) : List (Addr × Obj) := (allNews g h L).filter fun p => decide (p.1 ≠ d)
end L2

namespace L2
open PySem PySem.Spec PyProof.Rows

/-- the module's facts, over the base: the heap at the law's entry without what is tracked there -/
structure Mod (K : PySem.W.Frag) (mg : Str → Option Value) (base : Heap) : Prop where
  kin : K.In base
  glob : base.Ns mainGlobals mg
  blt : ∃ mb, base.Ns builtinsNs mb ∧ ∀ x : Str, x ≠ "__name__" → mb x = bootBuiltins x
  nolimit : base.NoLimit

/-- the context: a def's body (or a comprehension's block) running. base: fixed through the whole law; s₀, H₀: the entry; outer: the frames whose slots others may change (a def's callers); stack: all frames that run;
   ex: iterators that were made ahead of the entry and are walked here (a comprehension's); fn: the names whose cells were made at the entry (a def: all; a comprehension's block: its own); calm: not within an except suite; pn: pins that every state bears; xe: what is wanted of an exception that leaves the code -/
structure Cx where
  prog : Program
  w : World
  K : PySem.W.Frag
  mg : Str → Option Value
  base : Heap
  A : Around
  N : List Str
  s₀ : Shared
  H₀ : Hp
  env : Env
  outer : List Env
  stack : List Env
  ex : List Addr
  fn : Str → Bool
  calm : Bool
  pn : List (Addr × Obj)
  xe : Value → Shared → Prop
/-- the callers' frames -/
def frs (l : List Env) : List Addr := l.filterMap (·.frame)
abbrev Cx.fs (X : Cx) : List Addr := frs X.outer

def Vis (sc : Scope) (x : Str) : Prop := sc.names.lookup x = some .local ∨ sc.names.lookup x = some .cell ∨ sc.names.lookup x = some .free
def Loc (sc : Scope) (x : Str) : Prop := sc.names.lookup x = some .local ∨ sc.names.lookup x = some .cell
def Look (env : Env) (h : Heap) (m : Str → Option Value) (x : Str) (u : Value) : Prop :=
  (env.kindOf x = some .local ∧ m x = some u) ∨ ((env.kindOf x = some .cell ∨ env.kindOf x = some .free) ∧ ∃ c, env.cells.lookup x = some c ∧ h.IsCell c (some u))

structure Cx.Ok (X : Cx) : Prop where
  mod : Mod X.K X.mg X.base
  kind : X.env.scope.kind = .function
  glob : X.env.globals = mainGlobals
  blt : X.env.builtins = builtinsNs
  above : X.s₀.heap.objs.size ≤ X.env.locals
  inj : ∀ x y c, X.env.cells.lookup x = some c → X.env.cells.lookup y = some c → x = y
  has : ∀ x, (X.env.kindOf x = some .cell ∨ X.env.kindOf x = some .free) → ∃ c, X.env.cells.lookup x = some c
  cab : ∀ x c, X.fn x = true → X.env.cells.lookup x = some c → X.s₀.heap.objs.size ≤ c
  hd : X.calm = true → X.A.handled = none
  frames : X.A.frames = some X.stack
  stk : X.stack = X.outer ∨ (X.stack = X.env :: X.outer ∧ X.env.frame = some X.env.locals)
  exf : ∀ b ∈ X.ex, b ≠ X.env.locals ∧ ∀ x c, X.env.cells.lookup x = some c → c ≠ b
  bs : ∀ b o, X.base.get? b = some o → X.s₀.heap.get? b = some o ∧ X.H₀ b = none
  bsz : X.base.objs.size ≤ X.s₀.heap.objs.size
  noex : ∀ b o, X.base.get? b = some o → b ∉ X.ex
  exfs : ∀ b ∈ X.ex, b ∉ X.fs
  funs : X.s₀.heap.FunFrames X.base X.outer
  frf : ∀ b ∈ X.fs, X.H₀ b = none

structure Inv (X : Cx) (pins : List (Addr × Obj)) (σ : List (Option V)) (H : Hp) (s : Shared) : Prop where
  ok : X.Ok
  os : s.os = X.s₀.os
  bare : AllBare s.gens
  base : Un X.fs X.ex X.H₀ H X.s₀.heap s.heap
  loc : ∃ m, s.heap.Ns X.env.locals m ∧ ∀ (i : Nat) (x : Str) (v : V), X.N[i]? = some x → σ[i]? = some (some v) → Vis X.env.scope x → ∃ u, RelV v u ∧ Look X.env s.heap m x u
  cell : ∀ x c, X.env.cells.lookup x = some c → ∃ v, s.heap.IsCell c v
  free : H X.env.locals = none
  freeC : ∀ x c, X.env.cells.lookup x = some c → H c = none
  pin : ∀ p ∈ X.pn ++ pins, s.heap.get? p.1 = some p.2 ∧ H p.1 = none ∧ p.1 ≠ X.env.locals ∧ p.1 ∉ X.fs ∧ ∀ v, p.2.data ≠ .cell v
  hok : HOk X.prog X.w H s.heap
  len : σ.length = X.N.length

section
variable {X : Cx} {pins : List (Addr × Obj)} {σ : List (Option V)} {H H' : Hp} {s : Shared} {h' : Heap}

theorem Cx.Ok.nofr (ok : X.Ok) {b : Addr} {o : Obj} (e : X.base.get? b = some o) : b ∉ X.fs := fun hb => by
  have := (ok.funs.mem hb).1
  rw [e] at this; cases this
theorem Inv.bs (I : Inv X pins σ H s) : ∀ b o, X.base.get? b = some o → s.heap.get? b = some o ∧ H b = none := fun b o e =>
  ⟨I.base.keep b o (I.ok.bs b o e).1 (I.ok.bs b o e).2 (I.ok.nofr e) (I.ok.noex b o e), I.base.free b o (I.ok.bs b o e).1 (I.ok.bs b o e).2 (I.ok.noex b o e)⟩
theorem Inv.bk (I : Inv X pins σ H s) : ∀ b o, X.base.get? b = some o → s.heap.get? b = some o := fun b o e => (I.bs b o e).1
theorem Inv.mod (I : Inv X pins σ H s) : Mod X.K X.mg X.base := I.ok.mod
theorem Inv.kIn (I : Inv X pins σ H s) : X.K.In s.heap := I.ok.mod.kin.keeps I.bk
theorem Inv.lt (I : Inv X pins σ H s) : X.env.locals < s.heap.objs.size := let ⟨_, hn, _⟩ := I.loc; hn.lt
theorem Inv.sz (I : Inv X pins σ H s) : X.s₀.heap.objs.size ≤ s.heap.objs.size := Nat.le_trans I.ok.above (Nat.le_of_lt I.lt)
theorem Inv.nofs (I : Inv X pins σ H s) {a : Addr} (h : s.heap.objs.size ≤ a) : a ∉ X.fs := fun hb => by
  obtain ⟨_, o, ho, _⟩ := I.ok.funs.mem hb
  exact absurd (Nat.lt_of_lt_of_le (Heap.lt_size ho) (Nat.le_trans I.sz h)) (Nat.lt_irrefl _)
theorem Inv.cne (I : Inv X pins σ H s) : ∀ x c, X.env.cells.lookup x = some c → c ≠ X.env.locals := fun x c e z => by
  obtain ⟨v, o, ho, hd⟩ := I.cell x c e
  obtain ⟨m, ⟨o', es, ep, ho', hd', _⟩, _⟩ := I.loc
  rw [z, ho'] at ho; cases ho; rw [hd'] at hd; cases hd
theorem Inv.funs (I : Inv X pins σ H s) : s.heap.FunFrames X.base X.outer := by
  have all : ∀ (l : List Env), (∀ b ∈ frs l, b ∈ X.fs) → X.s₀.heap.FunFrames X.base l → s.heap.FunFrames X.base l := by
    intro l
    induction l with
    | nil => intro _ _; trivial
    | cons env r ih =>
      intro hs hl
      obtain ⟨hk, ⟨L, o, hf, hn, ho, hd⟩, hr⟩ := hl
      have hL : L ∈ X.fs := hs L (by unfold frs; rw [List.filterMap_cons, hf]; exact List.mem_cons_self)
      obtain ⟨sl, e⟩ := I.base.slot L o ho (I.ok.frf L hL) hL fun z => I.ok.exfs L z hL
      exact ⟨hk, ⟨L, _, hf, hn, e, hd⟩, ih (fun b hb => hs b (by unfold frs; rw [List.filterMap_cons, hf]; exact List.mem_cons_of_mem _ hb)) hr⟩
  exact all X.outer (fun _ hb => hb) I.ok.funs

/-- the frames that run, for a call -/
theorem Inv.stack (I : Inv X pins σ H s) : s.heap.FunFrames X.base X.stack := by
  rcases I.ok.stk with e | ⟨e, hf⟩
  · rw [e]; exact I.funs
  · rw [e]
    obtain ⟨m, hn, _⟩ := I.loc
    refine .cons (by rw [I.ok.kind]; decide) hf hn ?_ I.funs
    exact Heap.get?_none_of_le (Nat.le_trans I.ok.bsz I.ok.above)
theorem Inv.stkSub (I : Inv X pins σ H s) : ∀ b ∈ frs X.stack, b ∈ X.env.locals :: X.fs := fun b hb => by
  rcases I.ok.stk with e | ⟨e, hf⟩
  · rw [e] at hb; exact List.mem_cons_of_mem _ hb
  · rw [e] at hb
    unfold frs at hb
    rw [List.filterMap_cons, hf] at hb
    exact hb
theorem Inv.stkFree (I : Inv X pins σ H s) : ∀ b ∈ frs X.stack, H b = none := fun b hb => by
  rcases List.mem_cons.mp (I.stkSub b hb) with e | hb
  · rw [e]; exact I.free
  · obtain ⟨_, o, ho, _⟩ := I.ok.funs.mem hb
    exact I.base.free b o ho (I.ok.frf b hb) fun z => I.ok.exfs b z hb

/-- THE STEP: the untracked objects but the frame and the records at ch are kept (the callers' frames up to slots), the frame's map is kept, the new abstract heap is held -/
theorem Inv.step {g' : Array GenState} {t' : Nat} {d' : Drawn} {ch : List Addr} (I : Inv X pins σ H s)
    (hch : ∀ b ∈ ch, (b ∈ X.ex ∨ X.s₀.heap.objs.size ≤ b) ∧ b ≠ X.env.locals ∧ (∀ x c, X.env.cells.lookup x = some c → c ≠ b) ∧ ∀ p ∈ X.pn ++ pins, p.1 ≠ b)
    (keep : ∀ b o, b ≠ X.env.locals → b ∉ X.fs → b ∉ ch → s.heap.get? b = some o → H b = none → h'.get? b = some o)
    (slot : ∀ b o, b ≠ X.env.locals → b ∈ X.fs → b ∉ ch → s.heap.get? b = some o → H b = none → ∃ sl, h'.get? b = some { o with slots := sl }) (free : ∀ b o, b ∉ ch → s.heap.get? b = some o → H b = none → H' b = none)
    (there : ∀ b o, b ∉ ch → s.heap.get? b = some o → ∃ o', h'.get? b = some o')
    (tups : ∀ b xs, H b = some (.tup xs) → H' b = some (.tup xs)) (frzs : ∀ b o u, H b = some (.frz o u) → H' b = some (.frz o u)) (tbls : ∀ b ps, H b = some (.tbl ps) → ∃ more, H' b = some (.tbl (ps ++ more)))
    (ns : ∀ m, s.heap.Ns X.env.locals m → h'.Ns X.env.locals m) (hok : HOk X.prog X.w H' h') (hg : AllBare g') :
    Inv X pins σ H' { s with heap := h', gens := g', drawn := d', toks := t' } := by
  have neL : ∀ b o, X.s₀.heap.get? b = some o → b ≠ X.env.locals := fun b o e => Nat.ne_of_lt (Nat.lt_of_lt_of_le (Heap.lt_size e) I.ok.above)
  have neC : ∀ b o, X.s₀.heap.get? b = some o → b ∉ X.ex → b ∉ ch := fun b o e hx hb => by
    rcases (hch b hb).1 with z | z
    · exact hx z
    · exact absurd (Nat.lt_of_lt_of_le (Heap.lt_size e) z) (Nat.lt_irrefl _)
  have cellK : ∀ x c, X.env.cells.lookup x = some c → ∀ v, s.heap.IsCell c v → h'.IsCell c v := fun x c e v ⟨o, ho, hd⟩ => by
    have nch : c ∉ ch := fun z => (hch c z).2.2.1 x c e rfl
    by_cases hc : c ∈ X.fs
    · obtain ⟨sl, q⟩ := slot c o (I.cne x c e) hc nch ho (I.freeC x c e)
      exact ⟨_, q, hd⟩
    · exact ⟨o, keep c o (I.cne x c e) hc nch ho (I.freeC x c e), hd⟩
  refine ⟨I.ok, I.os, hg, ⟨fun b o e n hb hx => ?_, fun b o e n hb hx => ?_, fun b o e n hx => ?_, fun b o e hx => ?_, fun b xs e => tups b xs (I.base.tups b xs e), fun b o xs e => frzs b o xs (I.base.frzs b o xs e), fun b ps e => ?_⟩, ?_, fun x c e => ?_, ?_, fun x c e => ?_, fun p hp => ?_, hok, I.len⟩
  · exact keep b o (neL b o e) hb (neC b o e hx) (I.base.keep b o e n hb hx) (I.base.free b o e n hx)
  · obtain ⟨sl, e1⟩ := I.base.slot b o e n hb hx
    obtain ⟨sl', e2⟩ := slot b _ (neL b o e) hb (neC b o e hx) e1 (I.base.free b o e n hx)
    exact ⟨sl', e2⟩
  · obtain ⟨o', e1⟩ := I.base.there b o e hx
    exact free b o' (neC b o e hx) e1 (I.base.free b o e n hx)
  · obtain ⟨o', e1⟩ := I.base.there b o e hx
    exact there b o' (neC b o e hx) e1
  · obtain ⟨m1, e1⟩ := I.base.tbls b ps e
    obtain ⟨m2, e2⟩ := tbls b _ e1
    exact ⟨m1 ++ m2, by rw [e2, Array.append_assoc]⟩
  · obtain ⟨m, hn, hl⟩ := I.loc
    refine ⟨m, ns m hn, fun i x v e1 e2 e3 => ?_⟩
    obtain ⟨u, r, l⟩ := hl i x v e1 e2 e3
    refine ⟨u, r, ?_⟩
    rcases l with l | ⟨k, c, e, z⟩
    · exact .inl l
    · exact .inr ⟨k, c, e, cellK x c e _ z⟩
  · obtain ⟨v, z⟩ := I.cell x c e
    exact ⟨v, cellK x c e v z⟩
  · obtain ⟨m, ⟨o, _, _, ho, _⟩, _⟩ := I.loc
    exact free _ o (fun z => (hch _ z).2.1 rfl) ho I.free
  · obtain ⟨v, o, ho, hd⟩ := I.cell x c e
    exact free c o (fun z => (hch c z).2.2.1 x c e rfl) ho (I.freeC x c e)
  · obtain ⟨e, n, ne, nf, d⟩ := I.pin p hp
    have nch : p.1 ∉ ch := fun z => (hch p.1 z).2.2.2 p hp rfl
    exact ⟨keep p.1 p.2 ne nf nch e n, free p.1 p.2 nch e n, ne, nf, d⟩
/-- .. where the frame's own object is kept too -/
theorem Inv.un {t' : Nat} (I : Inv X pins σ H s) (u : Un X.fs [] H H' s.heap h') (hok : HOk X.prog X.w H' h') : Inv X pins σ H' { s with heap := h', toks := t' } := by
  obtain ⟨m, ⟨o, es, ep, ho, r⟩, _⟩ := id I.loc
  obtain ⟨sl, hL⟩ := u.any ho I.free (by simp)
  exact I.step (g' := s.gens) (d' := s.drawn) (ch := []) (fun _ z => nomatch z) (fun b o _ hb _ e n => u.keep b o e n hb (by simp)) (fun b o _ hb _ e n => u.slot b o e n hb (by simp)) (fun b o _ e n => u.free b o e n (by simp)) (fun b o _ e => u.there b o e (by simp)) u.tups u.frzs u.tbls (fun m' hm => by
    obtain ⟨o', es', ep', ho', r'⟩ := hm
    rw [ho] at ho'; cases ho'
    exact ⟨_, es', ep', hL, r'⟩) hok I.bare
/-- behind a call (or a comprehension's block): the slots of this frame may have changed too, the records at ch may have turned -/
theorem Inv.call {g' : Array GenState} {t' : Nat} {d' : Drawn} {ch : List Addr} (I : Inv X pins σ H s) (u : Un (frs X.stack) ch H H' s.heap h') (hok : HOk X.prog X.w H' h') (hg : AllBare g')
    (hch : ∀ b ∈ ch, (b ∈ X.ex ∨ X.s₀.heap.objs.size ≤ b) ∧ b ≠ X.env.locals ∧ (∀ x c, X.env.cells.lookup x = some c → c ≠ b) ∧ ∀ p ∈ X.pn ++ pins, p.1 ≠ b) :
    Inv X pins σ H' { s with heap := h', gens := g', drawn := d', toks := t' } := by
  obtain ⟨m, ⟨o, es, ep, ho, r⟩, _⟩ := id I.loc
  obtain ⟨sl, hL⟩ := u.any ho I.free fun z => (hch _ z).2.1 rfl
  exact I.step (ch := ch) hch (fun b o hL hb hc e n => u.keep b o e n (fun z => (List.mem_cons.mp (I.stkSub b z)).elim hL hb) hc) (fun b o _ _ hc e n => u.any e n hc) (fun b o hc e n => u.free b o e n hc) (fun b o hc e => u.there b o e hc) u.tups u.frzs u.tbls (fun m' hm => by
    obtain ⟨o', es', ep', ho', r'⟩ := hm
    rw [ho] at ho'; cases ho'
    exact ⟨_, es', ep', hL, r'⟩) hok hg
/-- an untracked record of ours (an iterator) has turned -/
theorem Inv.turned {t' : Nat} {it : Addr} (I : Inv X pins σ H s) (k : ∀ b o, b ≠ it → s.heap.get? b = some o → h'.get? b = some o) (hn : H it = none) (hL : it ≠ X.env.locals)
    (h1 : it ∈ X.ex ∨ X.s₀.heap.objs.size ≤ it) (h2 : ∀ x c, X.env.cells.lookup x = some c → c ≠ it) (h3 : ∀ p ∈ X.pn ++ pins, p.1 ≠ it) : Inv X pins σ H { s with heap := h', toks := t' } := by
  have nit : ∀ b u, H b = some u → b ≠ it := fun b u e z => by rw [z, hn] at e; cases e
  refine I.step (g' := s.gens) (d' := s.drawn) (ch := [it]) (fun b hb => ?_) (fun b o _ _ hc e _ => k b o (fun z => hc (by simp [z])) e) (fun b o _ _ hc e _ => ⟨o.slots, k b o (fun z => hc (by simp [z])) e⟩) (fun _ _ _ _ n => n)
    (fun b o hc e => ⟨o, k b o (fun z => hc (by simp [z])) e⟩) (fun _ _ e => e) (fun _ _ _ e => e) (fun b ps e => ⟨#[], by rw [e]; simp⟩) (fun m hm => ?_) (fun b u e => ?_) I.bare
  · have e : b = it := by simpa using hb
    subst e
    exact ⟨h1, hL, h2, h3⟩
  · obtain ⟨o, es, ep, ho, r⟩ := hm
    exact ⟨o, es, ep, k _ o (Ne.symm hL) ho, r⟩
  · refine (I.hok b u e).stay (fun c v hc q => k c v ?_ q) (fun _ q => q) fun _ _ q => q
    rcases hc with z | z
    · rw [z]; exact nit b u e
    · exact nit c _ z
theorem Inv.tok (I : Inv X pins σ H s) (t : Nat) : Inv X pins σ H { s with toks := t } := I.un (h' := s.heap) (t' := t) Un.refl I.hok
/-- all objects kept -/
theorem Inv.kept {t' : Nat} (I : Inv X pins σ H s) (k : ∀ b u, s.heap.get? b = some u → h'.get? b = some u) : Inv X pins σ H { s with heap := h', toks := t' } := I.un (Un.kept k) (I.hok.kept k)
/-- a new object laid and tracked -/
theorem Inv.laid {a : Addr} {o : HO} {t' : Nat} (I : Inv X pins σ H s) (k : ∀ b u, s.heap.get? b = some u → h'.get? b = some u) (hp : s.heap.objs.size ≤ a) (new : ObjOk X.prog X.w (upd H a o) h' a o) :
    Inv X pins σ (upd H a o) { s with heap := h', toks := t' } := I.un (Un.laid k hp (I.hok.fresh hp)) (I.hok.laid k hp new)
/-- an object written -/
theorem Inv.write {x e : Addr} {o : HO} {t' : Nat} (I : Inv X pins σ H s) (mu : Mut (H x)) (he : e = x ∨ H e = some (.own x)) (k : ∀ b u, b ≠ e → s.heap.get? b = some u → h'.get? b = some u) (heo : ∃ u, h'.get? e = some u)
    (new : ObjOk X.prog X.w (upd H x o) h' x o) : Inv X pins σ (upd H x o) { s with heap := h', toks := t' } := I.un (Un.write mu he k heo) (I.hok.write mu he k heo new)
/-- forgetting slots, pins -/
theorem Inv.weak {σ' : List (Option V)} (I : Inv X pins σ H s) (hl : σ'.length = σ.length) (w : ∀ (i : Nat) v, σ'[i]? = some (some v) → σ[i]? = some (some v)) : Inv X pins σ' H s :=
  ⟨I.ok, I.os, I.bare, I.base, let ⟨m, hn, hl'⟩ := I.loc; ⟨m, hn, fun i x v e1 e2 e3 => hl' i x v e1 (w i v e2) e3⟩, I.cell, I.free, I.freeC, I.pin, I.hok, hl.trans I.len⟩
theorem Inv.pins_of {pins' : List (Addr × Obj)} (I : Inv X pins σ H s) (h : ∀ p ∈ pins', s.heap.get? p.1 = some p.2 ∧ H p.1 = none ∧ p.1 ≠ X.env.locals ∧ p.1 ∉ X.fs ∧ ∀ v, p.2.data ≠ .cell v) : Inv X pins' σ H s :=
  ⟨I.ok, I.os, I.bare, I.base, I.loc, I.cell, I.free, I.freeC, fun p hp => (List.mem_append.mp hp).elim (fun z => I.pin p (List.mem_append_left _ z)) (h p), I.hok, I.len⟩

theorem nodup_ix {N : List Str} (hN : N.Nodup) {i j : Nat} {x : Str} (a : N[i]? = some x) (b : N[j]? = some x) : i = j := by
  obtain ⟨h1, e1⟩ := List.getElem?_eq_some_iff.mp a
  obtain ⟨h2, e2⟩ := List.getElem?_eq_some_iff.mp b
  exact (List.getElem_inj hN).mp (e1.trans e2.symm)

/-- a name is stored; what changed -/
theorem store_ok2 {M : Model} {A : Around} {E : Value → Shared → Prop} {i : Nat} {x : Str} {v : V} {u : Value} {Q : Unit → Shared → Prop} (I : Inv X pins σ H s) (hN : X.N.Nodup) (hi : X.N[i]? = some x) (hx : Loc X.env.scope x) (r : RelV v u)
    (h : ∀ s', Inv X pins (σ.set i (some v)) H s' → (∃ a, Heap.SameBut a s.heap s'.heap ∧ (a = X.env.locals ∨ X.env.cells.lookup x = some a)) → Q () s') (hf : X.fn x = true ∨ X.env.scope.names.lookup x = some .local := by first | exact .inl rfl | exact .inr rfl | assumption) : wpAny M A (storeName X.env x u) Q E s := by
  obtain ⟨m, hn, hl⟩ := id I.loc
  have hcls : (X.env.scope.kind == .class || (X.env.scope.kind == .module && X.env.locals != X.env.globals)) = false := by rw [I.ok.kind]; rfl
  have hiσ : i < σ.length := by rw [I.len]; exact (List.getElem?_eq_some_iff.mp hi).1
  have cne := I.cne
  have tracked : ∀ {a : Addr} {h' : Heap}, (∃ o, s.heap.get? a = some o ∧ H a = none) → Heap.SameBut a s.heap h' → HOk X.prog X.w H h' := fun {a h'} ha hs b ob e => by
    obtain ⟨_, _, hfree⟩ := ha
    refine (I.hok b ob e).stay (fun c w' hc q => (hs.2 c ?_).trans q) (fun _ q => q) fun _ _ q => q
    rintro rfl
    rcases hc with rfl | hc
    · rw [hfree] at e; cases e
    · rw [hfree] at hc; cases hc
  rcases hx with hk | hk
  · refine wpAny_storeName_local hk hn (fun h' hn' hs => ?_) hcls
    obtain ⟨oL, _, _, hoL, _⟩ := id hn
    refine h _ ⟨I.ok, I.os, I.bare, ⟨fun b o e n hb hx => ?_, fun b o e n hb hx => ?_, I.base.free, fun b o e hx => ?_, I.base.tups, I.base.frzs, I.base.tbls⟩, ⟨_, hn', fun j y v' e1 e2 e3 => ?_⟩, fun y c e => ?_, I.free, I.freeC, fun p hp => ?_, tracked ⟨oL, hoL, I.free⟩ hs, by simpa using I.len⟩ ⟨_, hs, .inl rfl⟩
    · exact (hs.2 b (Nat.ne_of_lt (Nat.lt_of_lt_of_le (Heap.lt_size e) I.ok.above))).trans (I.base.keep b o e n hb hx)
    · obtain ⟨sl, e1⟩ := I.base.slot b o e n hb hx
      exact ⟨sl, (hs.2 b (Nat.ne_of_lt (Nat.lt_of_lt_of_le (Heap.lt_size e) I.ok.above))).trans e1⟩
    · obtain ⟨o', e1⟩ := I.base.there b o e hx
      exact ⟨o', (hs.2 b (Nat.ne_of_lt (Nat.lt_of_lt_of_le (Heap.lt_size e) I.ok.above))).trans e1⟩
    · by_cases hj : j = i
      · subst hj
        rw [hi] at e1; cases e1
        rw [List.getElem?_set_self hiσ] at e2
        cases e2
        exact ⟨u, r, .inl ⟨hk, by simp⟩⟩
      · rw [List.getElem?_set_ne (Ne.symm hj)] at e2
        obtain ⟨u', r', q⟩ := hl j y v' e1 e2 e3
        refine ⟨u', r', ?_⟩
        rcases q with ⟨k, e⟩ | ⟨k, c, e, z⟩
        · refine .inl ⟨k, ?_⟩
          have : y ≠ x := fun e => hj (nodup_ix hN e1 (e ▸ hi))
          simp [this, e]
        · exact .inr ⟨k, c, e, z.sameBut hs (cne y c e)⟩
    · obtain ⟨w', z⟩ := I.cell y c e
      exact ⟨w', z.sameBut hs (cne y c e)⟩
    · obtain ⟨e, n, ne, nf, d⟩ := I.pin p hp
      exact ⟨(hs.2 p.1 ne).trans e, n, ne, nf, d⟩
  · have hfn : X.fn x = true := by
      rcases hf with z | z
      · exact z
      · rw [z] at hk; cases hk
    obtain ⟨c, hc⟩ := I.ok.has x (.inl hk)
    obtain ⟨w', z⟩ := I.cell x c hc
    refine wpAny_storeName_cell I.ok.kind hk hc z (fun h' hc' hs => ?_)
    obtain ⟨oc, hoc, hocd⟩ := id z
    refine h { s with heap := h' } ⟨I.ok, I.os, I.bare, ⟨fun b o e n hb hx => ?_, fun b o e n hb hx => ?_, I.base.free, fun b o e hx => ?_, I.base.tups, I.base.frzs, I.base.tbls⟩, ⟨m, hn.sameBut hs (Ne.symm (cne x c hc)), fun j y v' e1 e2 e3 => ?_⟩, fun y c' e => ?_, I.free, I.freeC, fun p hp => ?_, tracked ⟨oc, hoc, I.freeC x c hc⟩ hs, by simpa using I.len⟩ ⟨c, hs, .inr hc⟩
    · exact (hs.2 b (Nat.ne_of_lt (Nat.lt_of_lt_of_le (Heap.lt_size e) (I.ok.cab x c hfn hc)))).trans (I.base.keep b o e n hb hx)
    · obtain ⟨sl, e1⟩ := I.base.slot b o e n hb hx
      exact ⟨sl, (hs.2 b (Nat.ne_of_lt (Nat.lt_of_lt_of_le (Heap.lt_size e) (I.ok.cab x c hfn hc)))).trans e1⟩
    · obtain ⟨o', e1⟩ := I.base.there b o e hx
      exact ⟨o', (hs.2 b (Nat.ne_of_lt (Nat.lt_of_lt_of_le (Heap.lt_size e) (I.ok.cab x c hfn hc)))).trans e1⟩
    · by_cases hj : j = i
      · subst hj
        rw [hi] at e1; cases e1
        rw [List.getElem?_set_self hiσ] at e2
        cases e2
        exact ⟨u, r, .inr ⟨.inl hk, c, hc, hc'⟩⟩
      · rw [List.getElem?_set_ne (Ne.symm hj)] at e2
        obtain ⟨u', r', q⟩ := hl j y v' e1 e2 e3
        refine ⟨u', r', ?_⟩
        rcases q with q | ⟨k, c', e, z'⟩
        · exact .inl q
        · refine .inr ⟨k, c', e, z'.sameBut hs ?_⟩
          rintro rfl
          exact hj (nodup_ix hN e1 (I.ok.inj _ _ _ e hc ▸ hi))
    · by_cases hcc : c' = c
      · subst hcc; exact ⟨_, hc'⟩
      · obtain ⟨w2, z2⟩ := I.cell y c' e
        exact ⟨w2, z2.sameBut hs hcc⟩
    · obtain ⟨e, n, ne, nf, d⟩ := I.pin p hp
      refine ⟨(hs.2 p.1 ?_).trans e, n, ne, nf, d⟩
      intro q
      rw [q, hoc] at e
      have q' : oc = p.2 := Option.some.inj e
      exact d w' (by rw [← q']; exact hocd)
theorem store_ok {M : Model} {A : Around} {E : Value → Shared → Prop} {i : Nat} {x : Str} {v : V} {u : Value} {Q : Unit → Shared → Prop} (I : Inv X pins σ H s) (hN : X.N.Nodup) (hi : X.N[i]? = some x) (hx : Loc X.env.scope x) (r : RelV v u)
    (h : ∀ s', Inv X pins (σ.set i (some v)) H s' → Q () s') (hf : X.fn x = true ∨ X.env.scope.names.lookup x = some .local := by first | exact .inl rfl | exact .inr rfl | assumption) : wpAny M A (storeName X.env x u) Q E s :=
  store_ok2 I hN hi hx r (fun s' I' _ => h s' I') hf
/-- behind a call or a block, the state as it is -/
theorem Inv.call' {s' : Shared} {ch : List Addr} (I : Inv X pins σ H s) (ho : s'.os = s.os) (u : Un (frs X.stack) ch H H' s.heap s'.heap) (hok : HOk X.prog X.w H' s'.heap) (hg : AllBare s'.gens)
    (hch : ∀ b ∈ ch, (b ∈ X.ex ∨ X.s₀.heap.objs.size ≤ b) ∧ b ≠ X.env.locals ∧ (∀ x c, X.env.cells.lookup x = some c → c ≠ b) ∧ ∀ p ∈ X.pn ++ pins, p.1 ≠ b) : Inv X pins σ H' s' := by
  obtain ⟨h', g', d', t', o'⟩ := s'
  have e : o' = s.os := ho
  subst e
  exact I.call (g' := g') (t' := t') (d' := d') u hok hg hch
end

/-! ### the judgements -/
/-- an exception: its class, its own dict's address (where it has one), the abstract heap behind it -/
abbrev XK := Value → Option Addr → Hp → Prop
abbrev St := List (Option V)
abbrev VK := V → Hp → Prop
/-- an expression's reading; a test's; an argument list's -/
abbrev TE := St → Hp → VK → Prop
abbrev TT := St → Hp → (Bool → Hp → Prop) → Prop
abbrev TA := St → Hp → (List V → Hp → Prop) → Prop
/-- what is wanted behind a statement -/
structure Ends where
  nx : St → Hp → Prop
  rt : VK
  bk : St → Hp → Prop := fun _ _ => False
  ct : St → Hp → Prop := fun _ _ => False
abbrev TS := Ends → St → Hp → Prop

def EP (X : Cx) (pins : List (Addr × Obj)) (σ : St) (Q : VK) (u : Value) (s' : Shared) : Prop := ∃ v H', Inv X pins σ H' s' ∧ RelV v u ∧ Q v H'
def TP (X : Cx) (pins : List (Addr × Obj)) (σ : St) (Q : Bool → Hp → Prop) (b : Bool) (s' : Shared) : Prop := ∃ H', Inv X pins σ H' s' ∧ Q b H'
def AP (X : Cx) (pins : List (Addr × Obj)) (σ : St) (Q : List V → Hp → Prop) (us : List Value) (s' : Shared) : Prop := ∃ vs H', Inv X pins σ H' s' ∧ Vals vs us ∧ Q vs H'
def SP (X : Cx) (pins : List (Addr × Obj)) (D : Ends) (f : Flow) (s' : Shared) : Prop :=
  match f with
  | .next => ∃ σ' H', Inv X pins σ' H' s' ∧ D.nx σ' H'
  | .brk => ∃ σ' H', Inv X pins σ' H' s' ∧ D.bk σ' H'
  | .cont => ∃ σ' H', Inv X pins σ' H' s' ∧ D.ct σ' H'
  | .ret u => ∃ v σ' H', Inv X pins σ' H' s' ∧ RelV v u ∧ D.rt v H'

def PE (X : Cx) (e : Expr) (t : TE) : Prop :=
  ∀ (pins : List (Addr × Obj)) (s : Shared) (σ : St) (H : Hp) (Q : VK), Inv X pins σ H s → t σ H Q → wpAny (model X.prog X.w) X.A (eval e X.env) (EP X pins σ Q) X.xe s
def PT (X : Cx) (e : Expr) (t : TT) : Prop :=
  ∀ (pins : List (Addr × Obj)) (s : Shared) (σ : St) (H : Hp) (Q : Bool → Hp → Prop), Inv X pins σ H s → t σ H Q → wpAny (model X.prog X.w) X.A (isTrue e X.env (eval e X.env)) (TP X pins σ Q) X.xe s
/-- a test whatever its 'whole' is (and, or) -/
def PW (X : Cx) (e : Expr) (t : TT) : Prop :=
  ∀ (whole : Sem Value) (pins : List (Addr × Obj)) (s : Shared) (σ : St) (H : Hp) (Q : Bool → Hp → Prop), Inv X pins σ H s → t σ H Q → wpAny (model X.prog X.w) X.A (isTrue e X.env whole) (TP X pins σ Q) X.xe s
theorem PW.pt {X : Cx} {e : Expr} {t : TT} (h : PW X e t) : PT X e t := h _
/-- an argument list (no star), from the left -/
def PA (X : Cx) (es : List Expr) (t : TA) : Prop :=
  ∀ (pos : Pos) (pins : List (Addr × Obj)) (s : Shared) (σ : St) (H : Hp) (Q : List V → Hp → Prop), Inv X pins σ H s → t σ H Q → wpAny (model X.prog X.w) X.A (spliced (backTo pos (starEach es X.env))) (AP X pins σ Q) X.xe s
def PS (X : Cx) (st : Stmt) (t : TS) : Prop :=
  ∀ (pins : List (Addr × Obj)) (s : Shared) (σ : St) (H : Hp) (D : Ends), Inv X pins σ H s → t D σ H → wpAny (model X.prog X.w) X.A (exec st X.env) (SP X pins D) X.xe s
def PSs (X : Cx) (st : List Stmt) (t : TS) : Prop :=
  ∀ (pins : List (Addr × Obj)) (s : Shared) (σ : St) (H : Hp) (D : Ends), Inv X pins σ H s → t D σ H → wpAny (model X.prog X.w) X.A (execs st X.env) (SP X pins D) X.xe s
/-- weaken the end -/
theorem thn {α : Type} {t : Sem α} {Q Q' : α → Shared → Prop} {M : Model} {A : Around} {E : Value → Shared → Prop} {s : Shared} (h : wpAny M A t Q E s) (hQ : ∀ a s, Q a s → Q' a s) : wpAny M A t Q' E s := wpAny_mono h hQ fun _ _ x => x
end L2

namespace L2
open PySem PySem.Spec PyProof.Rows
section
variable {X : Cx}

/-! ### names and constants -/
def tVar (i : Nat) : TE := fun σ H Q => ∃ v, σ[i]? = some (some v) ∧ Q v H
def tC (v : V) : TE := fun _ H Q => Q v H
theorem pe_var {i : Nat} {x : Str} {pos : Pos} (hN : X.N[i]? = some x) (hv : Vis X.env.scope x) (hd : (x == ("__debug__" : Str)) = false := by decide) (hcd : (x == ("__classdict__" : Str)) = false := by decide) : PE X (.Name x pos) (tVar i) := by
  intro pins s σ H Q I h
  obtain ⟨v, e, h⟩ := h
  obtain ⟨m, hn, hl⟩ := I.loc
  obtain ⟨u, r, l⟩ := hl i x v hN e hv
  have fin : EP X pins σ Q u s := ⟨v, H, I, r, h⟩
  rcases l with ⟨hk, hm⟩ | ⟨hk, c, hc, hcell⟩
  · exact wpAny_Name (wpAny_loadName_local I.ok.kind hk hn hm fin) hd
  · rcases hk with hk | hk
    · exact wpAny_Name (wpAny_loadName_cell I.ok.kind hk hc hcell fin) hd
    · exact wpAny_Name (wpAny_loadName_free I.ok.kind hk hc hcell fin hcd) hd
theorem pe_int {i j pos} : PE X (.Constant (.int i) j pos) (tC (.int i)) := fun _ _ _ H _ I h => wpAny_Constant_int ⟨.int i, H, I.tok _, ⟨_, rfl⟩, h⟩
theorem pe_bl {b j pos} : PE X (.Constant (.bool b) j pos) (tC (.bl b)) := fun _ _ _ H _ I h => Constant_bool ⟨.bl b, H, I, rfl, h⟩
theorem pe_non {j pos} : PE X (.Constant .none j pos) (tC .non) := fun _ _ _ H _ I h => Constant_none ⟨.non, H, I, rfl, h⟩
theorem pe_str {x j pos} : PE X (.Constant (.str x) j pos) (tC (.str x)) := fun _ _ _ H _ I h => Calls.Constant_str ⟨.str x, H, I.tok _, ⟨_, rfl⟩, h⟩

/-- a global name of the def -/
def Gl (X : Cx) (x : Str) : Prop := X.env.kindOf x = some .globalImplicit
theorem ld_glob {E : Value → Shared → Prop} {pins : List (Addr × Obj)} {s : Shared} {σ : St} {H : Hp} {x : Str} {u : Value} {pos : Pos} {Q : Value → Shared → Prop} (I : Inv X pins σ H s) (hg : Gl X x) (hm : X.mg x = some u) (h : Q u s)
    (hd : (x == ("__debug__" : Str)) = false := by decide) : wpAny (model X.prog X.w) X.A (eval (.Name x pos) X.env) Q E s :=
  Calls.Name_function_global I.ok.kind hg (Calls.loadGlobal_global (by rw [I.ok.glob]; exact I.mod.glob.keeps I.bk) hm h) hd
theorem ld_blt {E : Value → Shared → Prop} {pins : List (Addr × Obj)} {s : Shared} {σ : St} {H : Hp} {x : Str} {u : Value} {pos : Pos} {Q : Value → Shared → Prop} (I : Inv X pins σ H s) (hg : Gl X x) (hm : X.mg x = none) (hv : bootBuiltins x = some u) (h : Q u s)
    (hn : x ≠ "__name__" := by decide) (hd : (x == ("__debug__" : Str)) = false := by decide) : wpAny (model X.prog X.w) X.A (eval (.Name x pos) X.env) Q E s := by
  obtain ⟨mb, h1, h2⟩ := I.mod.blt
  exact Calls.Name_function_global I.ok.kind hg (Calls.loadGlobal_builtin (by rw [I.ok.glob]; exact I.mod.glob.keeps I.bk) hm (by rw [I.ok.blt]; exact h1.keeps I.bk) ((h2 x hn).trans hv) h) hd
/-- a module's constant, a class, a function, as a value -/
theorem pe_glob {x : Str} {v : V} {u : Value} {pos : Pos} (hg : Gl X x) (hm : X.mg x = some u) (r : RelV v u) (hd : (x == ("__debug__" : Str)) = false := by decide) : PE X (.Name x pos) (tC v) :=
  fun _ _ _ H _ I h => ld_glob I hg hm ⟨v, H, I, r, h⟩ hd
theorem pe_bltn {x : Str} {v : V} {u : Value} {pos : Pos} (hg : Gl X x) (hm : X.mg x = none) (hv : bootBuiltins x = some u) (r : RelV v u) (hn : x ≠ "__name__" := by decide) (hd : (x == ("__debug__" : Str)) = false := by decide) : PE X (.Name x pos) (tC v) :=
  fun _ _ _ H _ I h => ld_blt I hg hm hv ⟨v, H, I, r, h⟩ hn hd

/-! ### arithmetic -/
variable {a b : Expr} {ta tb : TE} {pos : Pos}
/-! ### comparisons -/
def PC (X : Cx) (op : CmpOp) (a b : Expr) (t : TE) : Prop :=
  ∀ (pins : List (Addr × Obj)) (s : Shared) (σ : St) (H : Hp) (Q : VK), Inv X pins σ H s → t σ H Q →
    wpAny (model X.prog X.w) X.A (eval a X.env) (fun v s₁ => wpAny (model X.prog X.w) X.A (eval b X.env) (fun u s₂ => wpAny (model X.prog X.w) X.A (compareOp op v u) (EP X pins σ Q) X.xe s₂) X.xe s₁) X.xe s
theorem nobehind (b : Expr) {op : CmpOp} (h : op ≠ .In) (h2 : op ≠ .NotIn) : behindInMarks op b = false := by
  have e1 : (op == CmpOp.In) = false := by cases op <;> first | rfl | exact absurd rfl h
  have e2 : (op == CmpOp.NotIn) = false := by cases op <;> first | rfl | exact absurd rfl h2
  cases b <;> simp [behindInMarks, e1, e2]
/-- a comparison as a value, as a test -/
def tB (t : TE) : TT := fun σ H Q => t σ H fun x H1 => ∃ c, x = .bl c ∧ Q c H1
theorem pt_cmp {op : CmpOp} {t : TE} (h : PC X op a b t) (h1 : behindInMarks op b = false := by first | exact nobehind _ (by decide) (by decide) | rfl) : PT X (.Compare a [op] [b] pos) (tB t) := by
  intro pins s σ H Q I hw
  refine wpAny_isTrue_Compare1 (thn (h pins s σ H _ I hw) fun v s1 h1 => thn h1 fun u s2 h2 => thn h2 fun c s3 ⟨x, H1, I1, r1, q1⟩ => ?_) h1
  obtain ⟨d, rfl, q⟩ := q1
  cases r1
  exact wpAny_truthy_bool ⟨H1, I1, q⟩
/-- an expression whose value is a bool, as a test -/
theorem pt_val {e : Expr} {t : TE} (h : PE X e t) (he : ∀ whole, isTrue e X.env whole = (do let v ← whole; standAt e.pos; holding [v] (truthy v)) := by intro _; rfl) : PT X e (tB t) := by
  intro pins s σ H Q I hw
  refine isTrue_plain (thn (h pins s σ H _ I hw) fun v s1 ⟨x, H1, I1, r1, q1⟩ => ?_) (he _)
  obtain ⟨d, rfl, q⟩ := q1
  cases r1
  exact wpAny_truthy_bool ⟨H1, I1, q⟩

/-! ### and, or, not -/
variable {tA tB' : TT} {rest : List Expr}
def tAnd (t u : TT) : TT := fun σ H Q => t σ H fun c H1 => if c = true then u σ H1 Q else Q false H1
def tOr (t u : TT) : TT := fun σ H Q => t σ H fun c H1 => if c = true then Q true H1 else u σ H1 Q
def tNot (t : TT) : TT := fun σ H Q => t σ H fun c H1 => Q (!c) H1
theorem pw_and1 (ha : PT X a tA) : PW X (.BoolOp .And [a] pos) tA := by
  intro wh pins s σ H Q I h
  refine isTrue_and (thn (ha pins s σ H Q I h) fun c s1 e => ?_)
  cases c with
  | true => exact isTrue_and_nil e
  | false => exact e
theorem pw_or1 (ha : PT X a tA) : PW X (.BoolOp .Or [a] pos) tA := by
  intro wh pins s σ H Q I h
  refine isTrue_or (thn (ha pins s σ H Q I h) fun c s1 e => ?_)
  cases c with
  | false => exact isTrue_or_nil e
  | true => exact e
theorem pw_and (ha : PT X a tA) (hb : PW X (.BoolOp .And (b :: rest) pos) tB') : PW X (.BoolOp .And (a :: b :: rest) pos) (tAnd tA tB') := by
  intro wh pins s σ H Q I h
  refine isTrue_and (thn (ha pins s σ H _ I h) fun c s1 ⟨H1, I1, q1⟩ => ?_)
  cases c with
  | true => exact hb wh pins s1 σ H1 Q I1 q1
  | false => exact ⟨H1, I1, q1⟩
theorem pw_or (ha : PT X a tA) (hb : PW X (.BoolOp .Or (b :: rest) pos) tB') : PW X (.BoolOp .Or (a :: b :: rest) pos) (tOr tA tB') := by
  intro wh pins s σ H Q I h
  refine isTrue_or (thn (ha pins s σ H _ I h) fun c s1 ⟨H1, I1, q1⟩ => ?_)
  cases c with
  | true => exact ⟨H1, I1, q1⟩
  | false => exact hb wh pins s1 σ H1 Q I1 q1
theorem pt_not (ha : PT X a tA) : PT X (.UnaryOp .Not a pos) (tNot tA) := by
  intro pins s σ H Q I h
  exact isTrue_not (ha pins s σ H (fun c H1 => Q (!c) H1) I h)
/-- .. as values (bools) -/
def tAndV (ta tb : TE) : TE := fun σ H Q => ta σ H fun x H1 => ∃ c, x = .bl c ∧ if c = true then tb σ H1 Q else Q (.bl false) H1
def tNotV (ta : TE) : TE := fun σ H Q => ta σ H fun x H1 => ∃ c, x = .bl c ∧ Q (.bl (!c)) H1
theorem pe_one {op} {t : TE} (h : PE X a t) : PE X (.BoolOp op [a] pos) t := fun pins s σ H Q I hw => BoolOp_one (h pins s σ H Q I hw)
theorem pe_and (ha : PE X a ta) (hb : PE X (.BoolOp .And (b :: rest) pos) tb) : PE X (.BoolOp .And (a :: b :: rest) pos) (tAndV ta tb) := by
  intro pins s σ H Q I h
  refine BoolOp_and (thn (ha pins s σ H _ I h) fun v s1 ⟨x, H1, I1, r1, q1⟩ => ?_)
  obtain ⟨c, rfl, q1⟩ := q1
  cases r1
  refine wpAny_truthy_bool ?_
  cases c with
  | true => exact hb pins s1 σ H1 Q I1 q1
  | false => exact ⟨.bl false, H1, I1, rfl, q1⟩
theorem pe_not (ha : PE X a ta) : PE X (.UnaryOp .Not a pos) (tNotV ta) := by
  intro pins s σ H Q I h
  refine UnaryOp_ (thn (ha pins s σ H _ I h) fun v s1 ⟨x, H1, I1, r1, q1⟩ => ?_)
  obtain ⟨c, rfl, q1⟩ := q1
  cases r1
  exact not_of (wpAny_truthy_bool ⟨.bl (!c), H1, I1, rfl, q1⟩)
/-- a if t else b -/
def tIf (t : TT) (ta tb : TE) : TE := fun σ H Q => t σ H fun c H1 => if c = true then ta σ H1 Q else tb σ H1 Q
theorem pe_ifExp {c : Expr} (hc : PT X c tA) (ha : PE X a ta) (hb : PE X b tb) : PE X (.IfExp c a b pos) (tIf tA ta tb) := by
  intro pins s σ H Q I h
  refine wpAny_IfExp (thn (hc pins s σ H _ I h) fun d s1 ⟨H1, I1, q1⟩ => ?_)
  cases d with
  | true => exact ha pins s1 σ H1 Q I1 q1
  | false => exact hb pins s1 σ H1 Q I1 q1
end
end L2

namespace L2
open PySem PySem.Spec PyProof.Rows

/-! ### a list, a tuple that is read: tracked, frozen, or an object of the module -/
def SqL (K : PySem.W.Frag) (H : Hp) (a : Addr) (xs : List V) : Prop :=
  Rd H a (.lst xs) ∨
    ∃ (o : Obj) (its : Array Value) (n : Nat), K.lookup a = some o ∧ o.cls = .type "list" ∧ o.dict = none ∧ o.data = .seq its n ∧ its.size ≤ sizeLine ∧ Vals xs its.toList
def SqT (K : PySem.W.Frag) (H : Hp) (a : Addr) (xs : List V) : Prop :=
  Rd H a (.tup xs) ∨
    ∃ (o : Obj) (its : Array Value) (n : Nat), K.lookup a = some o ∧ o.cls = .type "tuple" ∧ o.data = .seq its n ∧ its.size ≤ sizeLine ∧ Vals xs its.toList
def absV : Value → Option V
  | .none => some .non
  | .bool b => some (.bl b)
  | .int i _ => some (.int i)
  | .str x _ => some (.str x)
  | .bytes b _ => some (.byt b)
  | .float b _ => some (.flt b)
  | .ref a => some (.ref a)
  | .type n => some (.ty n)
  | _ => none
theorem RelV.abs {x : V} {u : Value} (r : RelV x u) : absV u = some x := by
  cases x with
  | non => cases r; rfl
  | bl _ => cases r; rfl
  | int _ => obtain ⟨t, rfl⟩ := r; rfl
  | str _ => obtain ⟨t, rfl⟩ := r; rfl
  | byt _ => obtain ⟨t, rfl⟩ := r; rfl
  | flt _ => obtain ⟨t, rfl⟩ := r; rfl
  | ref _ => cases r; rfl
  | ty _ => cases r; rfl
theorem RelV.inj {x y : V} {u : Value} (r : RelV x u) (q : RelV y u) : x = y := Option.some.inj (r.abs.symm.trans q.abs)
theorem Vals.inj : ∀ {xs ys : List V} {us : List Value}, Vals xs us → Vals ys us → xs = ys
  | _, _, _, .nil, .nil => rfl
  | _, _, _, .cons r t, .cons r' t' => by rw [r.inj r', Vals.inj t t']
section
variable {X : Cx} {pins : List (Addr × Obj)} {σ : St} {H : Hp} {s : Shared} {a : Addr} {xs ys : List V}
theorem SqL.of {K : PySem.W.Frag} (h : H a = some (.lst xs)) : SqL K H a xs := .inl (.inl h)
theorem SqT.of {K : PySem.W.Frag} (h : H a = some (.tup xs)) : SqT K H a xs := .inl (.inl h)
theorem Inv.list (I : Inv X pins σ H s) (h : SqL X.K H a xs) : ∃ its : List Value, Vals xs its ∧ PlainL s.heap a its.toArray ∧ xs.length ≤ sizeLine := by
  rcases h with h | ⟨o, its, n, hk, hc, hd, hs, hz, r⟩
  · obtain ⟨z, its, n, r, e⟩ := h.ok I.hok
    exact ⟨its, r, ⟨_, n, e, rfl, rfl, rfl⟩, z⟩
  · refine ⟨its.toList, r, ⟨o, n, I.kIn a o hk, hc, hd, by simpa using hs⟩, ?_⟩
    have e := r.length
    simp only [Array.length_toList] at e
    omega
theorem Inv.tuple (I : Inv X pins σ H s) (h : SqT X.K H a xs) : ∃ its : List Value, Vals xs its ∧ IsTup s.heap a its.toArray ∧ xs.length ≤ sizeLine := by
  rcases h with h | ⟨o, its, n, hk, hc, hs, hz, r⟩
  · obtain ⟨z, its, r, p⟩ := h.ok I.hok
    exact ⟨its, r, p, z⟩
  · refine ⟨its.toList, r, ⟨o, I.kIn a o hk, hc, n, by simpa using hs⟩, ?_⟩
    have e := r.length
    simp only [Array.length_toList] at e
    omega
theorem Inv.list_inj (I : Inv X pins σ H s) (h : SqL X.K H a xs) (h' : SqL X.K H a ys) : xs = ys := by
  obtain ⟨its, r, ⟨o, n, e, _, _, d⟩, _⟩ := I.list h
  obtain ⟨its', r', ⟨o', n', e', _, _, d'⟩, _⟩ := I.list h'
  rw [e] at e'; cases e'
  rw [d] at d'
  injection d' with d1 _
  have : its = its' := by simpa using congrArg Array.toList d1
  subst this
  exact r.inj r'
theorem Inv.tuple_inj (I : Inv X pins σ H s) (h : SqT X.K H a xs) (h' : SqT X.K H a ys) : xs = ys := by
  obtain ⟨its, r, ⟨o, e, _, n, d⟩, _⟩ := I.tuple h
  obtain ⟨its', r', ⟨o', e', _, n', d'⟩, _⟩ := I.tuple h'
  rw [e] at e'; cases e'
  rw [d] at d'
  injection d' with d1 _
  have : its = its' := by simpa using congrArg Array.toList d1
  subst this
  exact r.inj r'
end

/-! ### another wish about exceptions -/
abbrev Cx.wish (X : Cx) (E : Value → Shared → Prop) : Cx := { X with xe := E }
/-- no exception leaves -/
abbrev Cx.nox (X : Cx) : Cx := X.wish fun _ _ => False
theorem Cx.Ok.wish {X : Cx} (ok : X.Ok) (E : Value → Shared → Prop) : (X.wish E).Ok :=
  ⟨ok.mod, ok.kind, ok.glob, ok.blt, ok.above, ok.inj, ok.has, ok.cab, ok.hd, ok.frames, ok.stk, ok.exf, ok.bs, ok.bsz, ok.noex, ok.exfs, ok.funs, ok.frf⟩
theorem Cx.Ok.unwish {X : Cx} {E : Value → Shared → Prop} (ok : (X.wish E).Ok) : X.Ok :=
  ⟨ok.mod, ok.kind, ok.glob, ok.blt, ok.above, ok.inj, ok.has, ok.cab, ok.hd, ok.frames, ok.stk, ok.exf, ok.bs, ok.bsz, ok.noex, ok.exfs, ok.funs, ok.frf⟩
section
variable {X : Cx} {pins : List (Addr × Obj)} {σ : St} {H : Hp} {s : Shared} {E : Value → Shared → Prop}
theorem Inv.wish (I : Inv X pins σ H s) (E : Value → Shared → Prop) : Inv (X.wish E) pins σ H s := ⟨I.ok.wish E, I.os, I.bare, I.base, I.loc, I.cell, I.free, I.freeC, I.pin, I.hok, I.len⟩
theorem Inv.unwish (I : Inv (X.wish E) pins σ H s) : Inv X pins σ H s := ⟨I.ok.unwish, I.os, I.bare, I.base, I.loc, I.cell, I.free, I.freeC, I.pin, I.hok, I.len⟩
theorem SP.unwish {D : Ends} {f : Flow} {s' : Shared} (h : SP (X.wish E) pins D f s') : SP X pins D f s' := by
  cases f with
  | next => obtain ⟨σ', H', I, q⟩ := h; exact ⟨σ', H', I.unwish, q⟩
  | brk => obtain ⟨σ', H', I, q⟩ := h; exact ⟨σ', H', I.unwish, q⟩
  | cont => obtain ⟨σ', H', I, q⟩ := h; exact ⟨σ', H', I.unwish, q⟩
  | ret u => obtain ⟨v, σ', H', I, r, q⟩ := h; exact ⟨v, σ', H', I.unwish, r, q⟩
theorem PSs.nox {st : List Stmt} {t : TS} (h : PSs X.nox st t) : PSs X st t := fun pins s σ H D I hw =>
  wpAny_mono (h pins s σ H D (I.wish _) hw) (fun _ _ q => q.unwish) fun _ _ z => False.elim z
end

/-! ### blocks and small statements -/
section
variable {X : Cx} {st : Stmt} {rest : List Stmt} {t u : TS} {e : Expr} {te : TE} {pos : Pos}
def tNext : TS := fun D σ H => D.nx σ H
def tSeq (t u : TS) : TS := fun D σ H => t { D with nx := u D } σ H
theorem pss_nil : PSs X [] tNext := fun _ _ σ H _ I h => wpAny_execs_nil ⟨σ, H, I, h⟩
theorem pss_cons (h1 : PS X st t) (h2 : PSs X rest u) : PSs X (st :: rest) (tSeq t u) := by
  intro pins s σ H D I h
  refine wpAny_execs_cons (thn (h1 pins s σ H { D with nx := u D } I h) fun f s1 q => ?_)
  cases f with
  | next =>
    obtain ⟨σ', H', I', q⟩ := q
    exact h2 pins s1 σ' H' D I' q
  | ret v => exact q
  | brk => exact q
  | cont => exact q
theorem pss_one (h1 : PS X st t) : PSs X [st] t := by
  intro pins s σ H D I h
  refine wpAny_execs_cons (thn (h1 pins s σ H D I h) fun f s1 q => ?_)
  cases f with
  | next => exact wpAny_execs_nil q
  | ret v => exact q
  | brk => exact q
  | cont => exact q
/-- in a def's body nothing is shown -/
theorem Inv.quiet {pins : List (Addr × Obj)} {σ : St} {H : Hp} {s : Shared} (I : Inv X pins σ H s) : interactive X.env = false := by simp [interactive, I.ok.kind]
/-- an expression whose value is dropped -/
def tDrop (te : TE) : TS := fun D σ H => te σ H fun _ H1 => D.nx σ H1
theorem ps_expr (he : PE X e te) (hs : swapsWith e none pos.line X.env = pure false := by rfl) : PS X (.Expr e pos) (tDrop te) := by
  intro pins s σ H D I h
  exact wpAny_Expr_any (thn (he pins s σ H _ I h) fun v s1 ⟨x, H1, I1, r1, q1⟩ => ⟨σ, H1, I1, q1⟩) I.quiet hs
def tRet (te : TE) : TS := fun D σ H => te σ H D.rt
theorem ps_ret (he : PE X e te) : PS X (.Return (some e) pos) (tRet te) := by
  intro pins s σ H D I h
  exact wpAny_Return_some (thn (he pins s σ H _ I h) fun v s1 ⟨x, H1, I1, r1, q1⟩ => ⟨x, σ, H1, I1, r1, q1⟩)
def tIfS (c : TT) (t u : TS) : TS := fun D σ H => c σ H fun b H1 => if b = true then t D σ H1 else u D σ H1
theorem ps_if {c : Expr} {a b : List Stmt} {tc : TT} (hc : PT X c tc) (ha : PSs X a t) (hb : PSs X b u) : PS X (.If c a b pos) (tIfS tc t u) := by
  intro pins s σ H D I h
  refine wpAny_If (thn (hc pins s σ H _ I h) fun d s1 ⟨H1, I1, q1⟩ => ?_)
  cases d with
  | true => exact ha pins s1 σ H1 D I1 q1
  | false => exact hb pins s1 σ H1 D I1 q1
end

/-! ### targets -/
abbrev TG := V → St → Hp → (St → Hp → Prop) → Prop
abbrev TGs := List V → St → Hp → (St → Hp → Prop) → Prop
def PG (X : Cx) (target : Expr) (t : TG) : Prop :=
  ∀ (pins : List (Addr × Obj)) (s : Shared) (σ : St) (H : Hp) (v : V) (u : Value) (Q : St → Hp → Prop), Inv X pins σ H s → RelV v u → t v σ H Q →
    wpAny (model X.prog X.w) X.A (assign target X.env u) (fun _ s' => ∃ σ' H', Inv X pins σ' H' s' ∧ Q σ' H') X.xe s
/-- several targets, one after another -/
def PGs (X : Cx) (ts : List Expr) (t : TGs) : Prop :=
  ∀ (pins : List (Addr × Obj)) (s : Shared) (σ : St) (H : Hp) (vs : List V) (us : List Value) (Q : St → Hp → Prop), Inv X pins σ H s → Vals vs us → t vs σ H Q →
    wpAny (model X.prog X.w) X.A (assignInOrder ((assignEach ts X.env).map (·.2)) us) (fun _ s' => ∃ σ' H', Inv X pins σ' H' s' ∧ Q σ' H') X.xe s
/-- o[i] = v, by values -/
abbrev TSet := V → V → V → Hp → (Hp → Prop) → Prop
def PSet (X : Cx) (t : TSet) : Prop :=
  ∀ (pins : List (Addr × Obj)) (s : Shared) (σ : St) (H : Hp) (o i v : V) (ov iv u : Value) (Q : Hp → Prop), Inv X pins σ H s → RelV o ov → RelV i iv → RelV v u → t o i v H Q →
    wpAny (model X.prog X.w) X.A (setItem ov iv u) (fun _ s' => ∃ H', Inv X pins σ H' s' ∧ Q H') X.xe s
/-- a op= b, by values -/
abbrev TIp := V → V → Hp → VK → Prop
def PIp (X : Cx) (op : Operator) (t : TIp) : Prop :=
  ∀ (pins : List (Addr × Obj)) (s : Shared) (σ : St) (H : Hp) (x y : V) (v u : Value) (Q : VK), Inv X pins σ H s → RelV x v → RelV y u → t x y H Q →
    wpAny (model X.prog X.w) X.A (inplaceOp op v u) (EP X pins σ Q) X.xe s
section
variable {X : Cx} {pos : Pos}
def gName (i : Nat) : TG := fun v σ H Q => Q (σ.set i (some v)) H
theorem pg_name {i : Nat} {x : Str} (hN : X.N.Nodup) (hi : X.N[i]? = some x) (hx : Loc X.env.scope x) (hf : X.fn x = true ∨ X.env.scope.names.lookup x = some .local := by first | exact .inl rfl | exact .inr rfl | assumption) : PG X (.Name x pos) (gName i) := by
  intro pins s σ H v u Q I r h
  exact wpAny_assign_Name (store_ok I hN hi hx r (fun s' I' => ⟨_, H, I', h⟩) hf)
def gNil : TGs := fun vs σ H Q => vs = [] ∧ Q σ H
def gCons (t : TG) (u : TGs) : TGs := fun vs σ H Q => ∃ v r, vs = v :: r ∧ t v σ H fun σ' H' => u r σ' H' Q
theorem pgs_nil : PGs X [] gNil := by
  intro pins s σ H vs us Q I r h
  obtain ⟨e, h⟩ := h
  subst e
  cases r
  exact assignInOrder_nil ⟨σ, H, I, h⟩
theorem pgs_cons {e : Expr} {es : List Expr} {t : TG} {u : TGs} (h1 : PG X e t) (h2 : PGs X es u)
    (hs : (assignEach (e :: es) X.env).map (·.2) = assign e X.env :: (assignEach es X.env).map (·.2) := by rfl) : PGs X (e :: es) (gCons t u) := by
  intro pins s σ H vs us Q I r h
  obtain ⟨v, vr, e1, h⟩ := h
  subst e1
  cases r with
  | cons r rr =>
    rw [hs]
    refine assignInOrder_cons (thn (h1 pins s σ H _ _ _ I r h) fun _ s1 ⟨σ1, H1, I1, q1⟩ => ?_)
    exact h2 pins s1 σ1 H1 _ _ Q I1 rr q1
/-- (a, b, ..) = a tuple of that length -/
def gTup (K : PySem.W.Frag) (n : Nat) (t : TGs) : TG := fun v σ H Q => ∃ a xs, v = .ref a ∧ SqT K H a xs ∧ xs.length = n ∧ t xs σ H Q
theorem pg_tup {es : List Expr} {k : Nat} {t : TGs} {n : Nat} (hc : X.calm = true) (h : PGs X es t)
    (hn : (assignEach es X.env).length = n := by rfl) (hst : (assignEach es X.env).findIdx? (·.1) = none := by rfl) : PG X (.Tuple es k pos) (gTup X.K n t) := by
  intro pins s σ H v u Q I r hw
  obtain ⟨a, xs, e1, hq, hl, hw⟩ := hw
  subst e1
  cases r
  obtain ⟨its, rv, ht, hz⟩ := I.tuple hq
  refine assign_Tuple_tuple (I.ok.hd hc) ht (by simp [hn, ← hl, rv.length]) hst fun h' hx => ?_
  have I1 : Inv X pins σ H { s with heap := h' } := I.kept (t' := s.toks) fun b o e => hx b o (Nat.ne_of_lt (Heap.lt_size e)) e
  exact h pins _ σ H xs _ Q I1 (by simpa using rv) hw
/-- o[i] = .. -/
def gSub (to ti : TE) (t : TSet) : TG := fun v σ H Q => to σ H fun o H1 => ti σ H1 fun i H2 => t o i v H2 fun H3 => Q σ H3
theorem pg_sub {o i : Expr} {to ti : TE} {t : TSet} (ho : PE X o to) (hi : PE X i ti) (hs : PSet X t)
    (ha : ∀ v, assign (.Subscript o i pos) X.env v = (do
      let ov ← holding [v] (eval o X.env)
      let iv ← holding [v, ov] (eval i X.env)
      standAt pos
      holding [v, ov, iv] (setItem ov iv v)
      release [v, ov, iv] []) := by intro _; rfl) : PG X (.Subscript o i pos) (gSub to ti t) := by
  intro pins s σ H v u Q I r h
  rw [ha]
  refine wpAny_bind (wpAny_holding (thn (ho pins s σ H _ I h) fun ov s1 ⟨x, H1, I1, r1, q1⟩ => ?_))
  refine wpAny_bind (wpAny_holding (thn (hi pins s1 σ H1 _ I1 q1) fun iv s2 ⟨y, H2, I2, r2, q2⟩ => ?_))
  refine wpAny_bind (wpAny_standAt (wpAny_bind (wpAny_holding (thn (hs pins s2 σ H2 x y v ov iv u _ I2 r1 r2 r q2) fun _ s3 ⟨H3, I3, q3⟩ => ?_))))
  exact wpAny_release ⟨σ, H3, I3, q3⟩
/-- target = value -/
def tAsg (te : TE) (g : TG) : TS := fun D σ H => te σ H fun x H1 => g x σ H1 D.nx
theorem ps_asg {tg e : Expr} {te : TE} {g : TG} (he : PE X e te) (hg : PG X tg g) (hs : swapsWithSole [tg] e pos.line X.env = pure false := by rfl) (hw : swappedStores [tg] e X.env = pure none := by rfl)
    (h1 : (assignEach [tg] X.env).map (·.2) = [assign tg X.env] := by rfl) : PS X (.Assign [tg] e pos) (tAsg te g) := by
  intro pins s σ H D I h
  refine wpAny_Assign_stores (thn (he pins s σ H _ I h) fun v s1 ⟨x, H1, I1, r1, q1⟩ => ?_) hs hw
  rw [h1]
  exact thn (hg pins s1 σ H1 x v _ I1 r1 q1) fun _ s2 q => q
/-- name = value -/
theorem ps_set {i : Nat} {x : Str} {e : Expr} {te : TE} {pos' : Pos} (hN : X.N.Nodup) (hi : X.N[i]? = some x) (hx : Loc X.env.scope x) (he : PE X e te) (hs : swapsWith e (some (.Name x pos')) pos.line X.env = pure false := by rfl) (hf : X.fn x = true ∨ X.env.scope.names.lookup x = some .local := by first | exact .inl rfl | exact .inr rfl | assumption) :
    PS X (.Assign [.Name x pos'] e pos) (tAsg te (gName i)) := by
  intro pins s σ H D I h
  refine wpAny_Assign_Name (thn (he pins s σ H _ I h) fun v s1 ⟨y, H1, I1, r1, q1⟩ => ?_) hs
  exact store_ok I1 hN hi hx r1 (fun s2 I2 => ⟨_, H1, I2, q1⟩) hf
/-- a, b = x, y with plain local names: stored from the right; the pair itself is not tracked (the opening rows as in PyProof/Rows/TupAssign.lean:23) -/
def tPar (i j : Nat) (ta : TA) : TS := fun D σ H => ta σ H fun vs H1 => ∃ v w, vs = [v, w] ∧ D.nx ((σ.set i (some v)).set j (some w)) H1
theorem ps_par {i j : Nat} {x y : Str} {a b : Expr} {ta : TA} {px py pt : Pos} {kt k2 pt2} (hc : X.calm = true) (hN : X.N.Nodup) (hi : X.N[i]? = some x) (hj : X.N[j]? = some y) (hij : i ≠ j)
    (hx : X.env.scope.names.lookup x = some .local) (hy : X.env.scope.names.lookup y = some .local) (ha : PA X [a, b] ta)
    (hw : swappedStores [.Tuple [.Name x px, .Name y py] kt pt] (.Tuple [a, b] k2 pt2) X.env = pure (some [x, y]))
    (hs : swapsWithSole [.Tuple [.Name x px, .Name y py] kt pt] (.Tuple [a, b] k2 pt2) pos.line X.env = pure false := by rfl) :
    PS X (.Assign [.Tuple [.Name x px, .Name y py] kt pt] (.Tuple [a, b] k2 pt2) pos) (tPar i j ta) := by
  intro pins s σ H D I h
  rw [exec_Assign_arm]
  refine wpAny_bind (wpAny_standAt ?_)
  rw [hs]
  refine wpAny_bind (wpAny_pure ?_)
  rw [if_neg (by decide)]
  refine wpAny_bind (Tuple_ (thn (ha _ pins s σ H _ I h) fun us s1 ⟨vs, H1, I1, r1, q1⟩ => ?_))
  obtain ⟨v, w, e1, q1⟩ := q1
  subst e1
  obtain ⟨u1, u2, rfl, rv, rw'⟩ : ∃ u1 u2, us = [u1, u2] ∧ RelV v u1 ∧ RelV w u2 := by
    cases r1 with
    | cons p q =>
      cases q with
      | cons p' q' =>
        cases q'
        exact ⟨_, _, rfl, p, p'⟩
  refine wpAny_newObj_type ?_ (by show 2 ≤ sizeLine; decide)
  have I2 : Inv X pins σ H1 { s1 with heap := s1.heap.push { cls := .type "tuple", data := .seq [u1, u2].toArray } } := I1.kept (t' := s1.toks) fun b o e => Heap.get?_push_of_some _ e
  rw [hw]
  refine wpAny_bind (wpAny_pure ?_)
  show wpAny (model X.prog X.w) X.A (do rule "assign.swapped-stores"; let items ← unpackItems (.ref s1.heap.objs.size) 2 none; assignInOrder [fun v => bindName X.env y v, fun v => bindName X.env x v] items.reverse; pure Flow.next) _ _ _
  refine wpAny_bind (wpAny_rule (wpAny_bind (unpackItems_tuple (items := #[u1, u2]) (I.ok.hd hc) (IsTup.new s1.heap _) fun h' hx' => ?_)))
  have I3 := I2.kept (h' := h') (t' := s1.toks) fun b o e => hx' b o (Nat.ne_of_lt (Heap.lt_size e)) e
  show wpAny _ _ (assignInOrder [fun v => bindName X.env y v, fun v => bindName X.env x v] [u2, u1] >>= fun _ => pure Flow.next) _ _ _
  refine wpAny_bind (assignInOrder_cons (wpAny_bindName (store_ok I3 hN hj (.inl hy) rw' (fun s2 I4 => ?_) (.inr hy))))
  refine assignInOrder_cons (wpAny_bindName (store_ok I4 hN hi (.inl hx) rv (fun s3 I5 => assignInOrder_nil (wpAny_pure ?_)) (.inr hx)))
  rw [List.set_comm _ _ (Ne.symm hij)] at I5
  exact ⟨_, H1, I5, q1⟩
/-- name op= e -/
def tAug (i : Nat) (te : TE) (ti : TIp) : TS := fun D σ H => ∃ x, σ[i]? = some (some x) ∧ te σ H fun y H1 => ti x y H1 fun z H2 => D.nx (σ.set i (some z)) H2
theorem ps_aug {i : Nat} {x : Str} {e : Expr} {te : TE} {op : Operator} {ti : TIp} {pos' : Pos} (hN : X.N.Nodup) (hi : X.N[i]? = some x) (hx : Loc X.env.scope x) (he : PE X e te) (ho : PIp X op ti) (hf : X.fn x = true ∨ X.env.scope.names.lookup x = some .local := by first | exact .inl rfl | exact .inr rfl | assumption) :
    PS X (.AugAssign (.Name x pos') op e pos) (tAug i te ti) := by
  intro pins s σ H D I h
  obtain ⟨v, e1, h⟩ := h
  obtain ⟨m, hn, hl⟩ := I.loc
  have vis : Vis X.env.scope x := by rcases hx with k | k; exact .inl k; exact .inr (.inl k)
  obtain ⟨u, r, l⟩ := hl i x v hi e1 vis
  refine wpAny_AugAssign_Name ?_
  have go : wpAny (model X.prog X.w) X.A (eval e X.env) (fun w s₂ => wpAny (model X.prog X.w) X.A (inplaceOp op u w) (fun r s₃ => wpAny (model X.prog X.w) X.A (storeName X.env x r) (fun _ => SP X pins D .next) X.xe s₃) X.xe s₂) X.xe s := by
    refine thn (he pins s σ H _ I h) fun w s1 ⟨y, H1, I1, r1, q1⟩ => ?_
    refine thn (ho pins s1 σ H1 v y u w _ I1 r r1 q1) fun z s2 ⟨zv, H2, I2, r2, q2⟩ => ?_
    exact store_ok I2 hN hi hx r2 (fun s3 I3 => ⟨_, H2, I3, q2⟩) hf
  rcases l with ⟨hk, hm⟩ | ⟨hk, c, hc, hcell⟩
  · exact wpAny_loadName_local I.ok.kind hk hn hm go
  · rcases hk with hk | hk
    · exact wpAny_loadName_cell I.ok.kind hk hc hcell go
    · rcases hx with k | k
      · have : X.env.scope.names.lookup x = some .free := hk
        rw [k] at this; cases this
      · have : X.env.scope.names.lookup x = some .free := hk
        rw [k] at this; cases this
/-- ints -/
def ipI (f : Int → Int → Int) : TIp := fun x y H Q => ∃ i j, x = .int i ∧ y = .int j ∧ Q (.int (f i j)) H
theorem ip_add : PIp X .Add (ipI fun i j => i + j) := by
  intro pins s σ H x y v u Q I r1 r2 h
  obtain ⟨i, j, e1, e2, q⟩ := h
  subst e1; subst e2
  obtain ⟨t, rfl⟩ := r1
  obtain ⟨t', rfl⟩ := r2
  exact iadd_int ⟨.int _, H, I.tok _, ⟨_, rfl⟩, q⟩
end

/-! ### while -/
section
variable {X : Cx} {pos : Pos}
end

/-! ### what a loop or a comprehension walks -/
/-- at turn i: it yields x (the heap may grow), or it stops -/
structure It where
  go : Nat → Hp → Prop
  yld : Nat → Hp → V → Hp → Prop
  stop : Nat → Hp → Prop
/-- the iterator's own objects may turn: they are not the frame's, not pinned, younger than the entry (or a comprehension's own) -/
def FpOk (X : Cx) (pins : List (Addr × Obj)) (H : Hp) (b : Addr) : Prop :=
  H b = none ∧ b ≠ X.env.locals ∧ b ∉ X.fs ∧ (b ∈ X.ex ∨ X.s₀.heap.objs.size ≤ b) ∧ (∀ x c, X.env.cells.lookup x = some c → c ≠ b) ∧ ∀ p ∈ X.pn ++ pins, p.1 ≠ b
theorem Inv.fpOk {X : Cx} {pins : List (Addr × Obj)} {σ : St} {H H' : Hp} {s : Shared} {b : Addr} (I : Inv X pins σ H s) (hb : s.heap.objs.size ≤ b) (hn : H' b = none) : FpOk X pins H' b := by
  refine ⟨hn, Nat.ne_of_gt (Nat.lt_of_lt_of_le I.lt hb), I.nofs hb, .inr (Nat.le_trans I.sz hb), fun x c e z => ?_, fun p hp z => ?_⟩
  · obtain ⟨v, q⟩ := I.cell x c e
    exact absurd (Nat.lt_of_lt_of_le q.lt (by rw [z]; exact hb)) (Nat.lt_irrefl _)
  · exact absurd (Nat.lt_of_lt_of_le (Heap.lt_size (I.pin p hp).1) (by rw [z]; exact hb)) (Nat.lt_irrefl _)
structure Turn (P : Program) (w : World) (K : PySem.W.Frag) (tg : Expr) (J : It) (fp : List Addr) (it : Addr) (tn : Nat → Heap → Prop) : Prop where
  mem : it ∈ fp
  obj : ∀ i h, tn i h → ∀ b ∈ fp, ∃ o, h.get? b = some o ∧ ∀ v, o.data ≠ .cell v
  keep : ∀ i h h', tn i h → (∀ b ∈ fp, ∀ o, h.get? b = some o → h'.get? b = some o) → tn i h'
  item : ∀ (X : Cx), X.prog = P → X.w = w → X.K = K → X.calm = true → ∀ (i : Nat) (pins : List (Addr × Obj)) (s : Shared) (σ : St) (H : Hp) (E : Value → Shared → Prop), Inv X pins σ H s → (∀ b ∈ fp, FpOk X pins H b) → tn i s.heap → J.go i H →
    wpAny (model P w) X.A (pyNext (.ref it)) (fun r s1 => ∃ u, r = some u ∧
      wpAny (model P w) X.A (letOwnedTupleGo tg (.ref it) u) (fun _ s2 => ∃ x H', Inv X pins σ H' s2 ∧ RelV x u ∧ J.yld i H x H' ∧ tn (i + 1) s2.heap ∧ ∀ b ∈ fp, H' b = none) E s1) E s
  done : ∀ (X : Cx), X.prog = P → X.w = w → X.K = K → X.calm = true → ∀ (i : Nat) (pins : List (Addr × Obj)) (s : Shared) (σ : St) (H : Hp) (E : Value → Shared → Prop), Inv X pins σ H s → (∀ b ∈ fp, FpOk X pins H b) → tn i s.heap → J.stop i H →
    wpAny (model P w) X.A (pyNext (.ref it)) (fun r s1 => r = none ∧ Inv X pins σ H s1) E s
  self : ∀ (A : Around) (i : Nat) (s : Shared) (Q : Value → Shared → Prop) (E : Value → Shared → Prop), tn i s.heap → Q (.ref it) s → wpAny (model P w) A (pyIter (.ref it)) Q E s
abbrev TI := St → Hp → (It → Hp → Prop) → Prop
/-- an iterator has come -/
def PIE (X : Cx) (pins : List (Addr × Obj)) (σ : St) (tg : Expr) (R : It → Hp → Prop) (itv : Value) (s2 : Shared) : Prop :=
  ∃ (it : Addr) (fp : List Addr) (tn : Nat → Heap → Prop) (J : It) (H' : Hp), itv = .ref it ∧ Inv X pins σ H' s2 ∧ Turn X.prog X.w X.K tg J fp it tn ∧ tn 0 s2.heap ∧ (∀ b ∈ fp, FpOk X pins H' b) ∧ R J H'
def PI (X : Cx) (tg iter : Expr) (wi : TI) : Prop :=
  ∀ (pins : List (Addr × Obj)) (s : Shared) (σ : St) (H : Hp) (R : It → Hp → Prop), Inv X pins σ H s → wi σ H R →
    wpAny (model X.prog X.w) X.A (eval iter X.env) (fun v s1 => wpAny (model X.prog X.w) X.A (pyIter v) (PIE X pins σ tg R) X.xe s1) X.xe s

/-- the step ahead of the store is nothing for an iterator that keeps no tuple -/
theorem go_of {M : Model} {A : Around} {E : Value → Shared → Prop} {s : Shared} {tg : Expr} {it : Addr} {u : Value} {o : Obj} {n : String} {vs : Array Value} {Q : Unit → Shared → Prop} (ho : s.heap.get? it = some o) (hc : o.cls = .type n) (hd : o.data = .fields vs)
    (hn : ["enumerate", "zip", "dict_itemiterator", "dict_reverseitemiterator", "odict_iterator", "itertools.zip_longest", "itertools.pairwise"].contains n = false) (hQ : Q () s) : wpAny M A (letOwnedTupleGo tg (.ref it) u) Q E s := by
  unfold letOwnedTupleGo
  cases tg <;> first
    | exact wpAny_pure hQ
    | (cases u <;> first
        | exact wpAny_pure hQ
        | (refine wpAny_bind (wpAny_load ho ?_)
           rw [hc, hd]
           show wpAny M A (if (["enumerate", "zip", "dict_itemiterator", "dict_reverseitemiterator", "odict_iterator", "itertools.zip_longest", "itertools.pairwise"].contains n && vs[0]? == some (rawInt _)) = true then _ else _) Q E s
           rw [if_neg (by intro h; rw [hn, Bool.false_and] at h; cases h)]
           exact wpAny_pure hQ))

/-- the list at a, as it stands at each turn (a loop may append to it) -/
def Itl (K : PySem.W.Frag) (a : Addr) : It :=
  ⟨fun i H => ∃ xs x, SqL K H a xs ∧ xs[i]? = some x, fun i H x H' => H' = H ∧ ∀ xs, SqL K H a xs → xs[i]? = some x, fun i H => ∃ xs, SqL K H a xs ∧ xs.length ≤ i⟩
def Itt (K : PySem.W.Frag) (a : Addr) : It :=
  ⟨fun i H => ∃ xs x, SqT K H a xs ∧ xs[i]? = some x, fun i H x H' => H' = H ∧ ∀ xs, SqT K H a xs → xs[i]? = some x, fun i H => ∃ xs, SqT K H a xs ∧ xs.length ≤ i⟩
/-- lo, lo + 1, .. (n of them) -/
def Itr (lo : Int) (n : Nat) : It := ⟨fun i _ => i < n, fun i H x H' => H' = H ∧ x = .int (lo + i), fun i _ => n ≤ i⟩
theorem turn_list {P : Program} {w : World} {K : PySem.W.Frag} {tg : Expr} (a it : Addr) : Turn P w K tg (Itl K a) [it] it (fun i h => h.IsListIter it a i) where
  mem := by simp
  obj := fun i h st b hb => by
    have e : b = it := by simpa using hb
    subst e
    obtain ⟨o, e, c, d⟩ := st
    exact ⟨o, e, fun v z => by rw [d] at z; cases z⟩
  keep := fun i h h' st k => st.at fun o e => k it (by simp) o e
  item := by
    intro X hP hw hK hc i pins s σ H E I hf st hg
    subst hP hw hK
    obtain ⟨xs, x, hq, hx⟩ := hg
    obtain ⟨its, rv, p, hz⟩ := I.list hq
    obtain ⟨u, hu, ru⟩ := rv.get hx
    obtain ⟨f0, f1, f2, f3, f4, f5⟩ := hf it (by simp)
    refine wpAny_pyNext_list_item st p.isList (x := u) (by simpa using hu) fun h' st' sb => ?_
    have I1 : Inv X pins σ H { s with heap := h' } := I.turned (t' := s.toks) (fun b o hb e => (sb.2 b hb).trans e) f0 f1 f3 f4 f5
    obtain ⟨o, e, c, d⟩ := id st'
    exact ⟨u, rfl, go_of (s := { s with heap := h' }) e c d (by decide) ⟨x, H, I1, ru, ⟨rfl, fun ys hy => by rw [I.list_inj hy hq]; exact hx⟩, st', fun b hb => (hf b hb).1⟩⟩
  done := by
    intro X hP hw hK hc i pins s σ H E I hf st hg
    subst hP hw hK
    obtain ⟨xs, hq, hx⟩ := hg
    obtain ⟨its, rv, p, hz⟩ := I.list hq
    obtain ⟨f0, f1, f2, f3, f4, f5⟩ := hf it (by simp)
    have hl := rv.length
    exact wpAny_pyNext_list_end (I.ok.hd hc) st p.isList (by simp; omega) fun h' eb => ⟨rfl, I.turned (t' := s.toks) (fun b o hb e => eb b o hb e) f0 f1 f3 f4 f5⟩
  self := fun _ _ _ _ _ st h => wpAny_pyIter_listiter st h
theorem turn_tuple {P : Program} {w : World} {K : PySem.W.Frag} {tg : Expr} (a it : Addr) : Turn P w K tg (Itt K a) [it] it (fun i h => h.IsTupleIter it a i) where
  mem := by simp
  obj := fun i h st b hb => by
    have e : b = it := by simpa using hb
    subst e
    obtain ⟨o, e, c, d⟩ := st
    exact ⟨o, e, fun v z => by rw [d] at z; cases z⟩
  keep := fun i h h' st k => st.at fun o e => k it (by simp) o e
  item := by
    intro X hP hw hK hc i pins s σ H E I hf st hg
    subst hP hw hK
    obtain ⟨xs, x, hq, hx⟩ := hg
    obtain ⟨its, rv, p, hz⟩ := I.tuple hq
    obtain ⟨u, hu, ru⟩ := rv.get hx
    obtain ⟨f0, f1, f2, f3, f4, f5⟩ := hf it (by simp)
    refine wpAny_pyNext_tuple_item st (show s.heap.IsTuple a its.toArray from p) (x := u) (by simpa using hu) fun h' st' sb => ?_
    have I1 : Inv X pins σ H { s with heap := h' } := I.turned (t' := s.toks) (fun b o hb e => (sb.2 b hb).trans e) f0 f1 f3 f4 f5
    obtain ⟨o, e, c, d⟩ := id st'
    exact ⟨u, rfl, go_of (s := { s with heap := h' }) e c d (by decide) ⟨x, H, I1, ru, ⟨rfl, fun ys hy => by rw [I.tuple_inj hy hq]; exact hx⟩, st', fun b hb => (hf b hb).1⟩⟩
  done := by
    intro X hP hw hK hc i pins s σ H E I hf st hg
    subst hP hw hK
    obtain ⟨xs, hq, hx⟩ := hg
    obtain ⟨its, rv, p, hz⟩ := I.tuple hq
    obtain ⟨f0, f1, f2, f3, f4, f5⟩ := hf it (by simp)
    have hl := rv.length
    exact wpAny_pyNext_tuple_end (I.ok.hd hc) st (show s.heap.IsTuple a its.toArray from p) (by simp; omega) fun h' eb => ⟨rfl, I.turned (t' := s.toks) (fun b o hb e => eb b o hb e) f0 f1 f3 f4 f5⟩
  self := fun _ _ _ _ _ st h => wpAny_pyIter_tupleiter st h
theorem turn_range {P : Program} {w : World} {K : PySem.W.Frag} {tg : Expr} (it : Addr) (lo : Int) (n : Nat) : Turn P w K tg (Itr lo n) [it] it (fun i h => IsRangeIter h it (lo + (i : Nat) * 1) ((n : Int) - (i : Nat)) 1) where
  mem := by simp
  obj := fun i h st b hb => by
    have e : b = it := by simpa using hb
    subst e
    exact ⟨_, st, fun v z => by
      have z' : Data.fields _ = Data.cell v := z
      cases z'⟩
  keep := fun i h h' st k => k it (by simp) _ st
  item := by
    intro X hP hw hK hc i pins s σ H E I hf st hg
    subst hP hw hK
    obtain ⟨f0, f1, f2, f3, f4, f5⟩ := hf it (by simp)
    have W := Walks.range (prog := X.prog) (w := X.w) (I.ok.hd hc) it lo 1 n
    refine W.item i s _ _ hg st fun v h' tk hv st' kk => ?_
    obtain ⟨t, rfl⟩ := hv
    have I1 : Inv X pins σ H { s with heap := h', toks := tk } := I.turned (fun b o hb e => kk b o (by simpa using hb) e) f0 f1 f3 f4 f5
    refine ⟨_, rfl, go_of (s := { s with heap := h', toks := tk }) (n := "range_iterator") st' rfl rfl (by decide) ⟨.int (lo + i), H, I1, ⟨t, ?_⟩, ⟨rfl, rfl⟩, st', fun b hb => (hf b hb).1⟩⟩
    rw [Int.mul_one]
  done := by
    intro X hP hw hK hc i pins s σ H E I hf st hg
    subst hP hw hK
    obtain ⟨f0, f1, f2, f3, f4, f5⟩ := hf it (by simp)
    exact wpAny_pyNext_range_end (I.ok.hd hc) st (by have : n ≤ i := hg; omega) fun h' eb => ⟨rfl, I.turned (t' := s.toks) (fun b o hb e => eb b o hb e) f0 f1 f3 f4 f5⟩
  self := fun _ _ _ _ _ st h => wpAny_pyIter_rangeiter st h
end L2

namespace L2
open PySem PySem.Spec PyProof.Rows
section
variable {X : Cx} {tg : Expr}
def iList (K : PySem.W.Frag) (tl : TE) : TI := fun σ H R => tl σ H fun x H1 => ∃ a, x = .ref a ∧ (∃ xs, SqL K H1 a xs) ∧ R (Itl K a) H1
def iTup (K : PySem.W.Frag) (tl : TE) : TI := fun σ H R => tl σ H fun x H1 => ∃ a, x = .ref a ∧ (∃ xs, SqT K H1 a xs) ∧ R (Itt K a) H1
theorem pi_list {l : Expr} {tl : TE} (hl : PE X l tl) : PI X tg l (iList X.K tl) := by
  intro pins s σ H R I h
  refine thn (hl pins s σ H _ I h) fun v s1 ⟨x, H1, I1, r1, q1⟩ => ?_
  obtain ⟨a, e, ⟨xs, hq⟩, q⟩ := q1
  subst e
  cases r1
  obtain ⟨its, rv, p, hz⟩ := I1.list hq
  refine wpAny_pyIter_list p.isList ?_
  refine ⟨s1.heap.objs.size, [s1.heap.objs.size], _, _, H1, rfl, I1.kept (t' := s1.toks) fun b o e => Heap.get?_push_of_some _ e, turn_list a _, ⟨_, Heap.get?_push_size _ rfl, rfl, rfl⟩, fun b hb => ?_, q⟩
  have e : b = s1.heap.objs.size := by simpa using hb
  subst e
  exact I1.fpOk (Nat.le_refl _) (I1.hok.fresh (Nat.le_refl _))
theorem pi_tup {l : Expr} {tl : TE} (hl : PE X l tl) : PI X tg l (iTup X.K tl) := by
  intro pins s σ H R I h
  refine thn (hl pins s σ H _ I h) fun v s1 ⟨x, H1, I1, r1, q1⟩ => ?_
  obtain ⟨a, e, ⟨xs, hq⟩, q⟩ := q1
  subst e
  cases r1
  obtain ⟨its, rv, p, hz⟩ := I1.tuple hq
  refine wpAny_pyIter_tuple (show s1.heap.IsTuple a its.toArray from p) ?_
  refine ⟨s1.heap.objs.size, [s1.heap.objs.size], _, _, H1, rfl, I1.kept (t' := s1.toks) fun b o e => Heap.get?_push_of_some _ e, turn_tuple a _, ⟨_, Heap.get?_push_size _ rfl, rfl, rfl⟩, fun b hb => ?_, q⟩
  have e : b = s1.heap.objs.size := by simpa using hb
  subst e
  exact I1.fpOk (Nat.le_refl _) (I1.hok.fresh (Nat.le_refl _))
/-- a range object just made, walked -/
theorem range_it {pins : List (Addr × Obj)} {σ : St} {H : Hp} {s : Shared} {R : It → Hp → Prop} {E : Value → Shared → Prop} {lo hi : Int} {t u v : Tok} {tk : Nat} (I : Inv X pins σ H s) (h1 : -(2 ^ 62) ≤ lo) (h2 : lo < 2 ^ 62) (h3 : -(2 ^ 62) ≤ hi) (h4 : hi < 2 ^ 62)
    (q : R (Itr lo (hi - lo).toNat) H) : wpAny (model X.prog X.w) X.A (pyIter (.ref s.heap.objs.size)) (PIE X pins σ tg R) E { s with heap := s.heap.push { cls := .type "range", data := .fields #[.int lo t, .int hi u, .int 1 v] }, toks := tk } := by
  refine wpAny_pyIter_range (IsRange.new ..) (small_one h1 h2 h3 h4) ?_
  have I1 : Inv X pins σ H { s with heap := s.heap.push { cls := .type "range", data := .fields #[.int lo t, .int hi u, .int 1 v] }, toks := tk } := I.kept fun b o e => Heap.get?_push_of_some _ e
  refine ⟨(s.heap.push { cls := .type "range", data := .fields #[.int lo t, .int hi u, .int 1 v] }).objs.size, [(s.heap.push { cls := .type "range", data := .fields #[.int lo t, .int hi u, .int 1 v] }).objs.size], _, _, H, rfl,
    I1.kept (t' := tk) fun b o e => Heap.get?_push_of_some _ e, turn_range _ lo (hi - lo).toNat, ?_, fun b hb => ?_, q⟩
  · have e1 : lo + ((0 : Nat) : Int) * 1 = lo := by simp
    have e2 : (((hi - lo).toNat : Nat) : Int) - ((0 : Nat) : Int) = Builtin.Range.rangeSize lo hi 1 := by rw [rangeSize_one]; split <;> omega
    show IsRangeIter _ _ (lo + ((0 : Nat) : Int) * 1) ((((hi - lo).toNat : Nat) : Int) - ((0 : Nat) : Int)) 1
    rw [e1, e2]
    exact Heap.get?_push_size _ rfl
  · have e : b = (s.heap.push { cls := .type "range", data := .fields #[.int lo t, .int hi u, .int 1 v] }).objs.size := by simpa using hb
    subst e
    exact I1.fpOk (Nat.le_refl _) (I1.hok.fresh (Nat.le_refl _))
def iRng1 (ta : TA) : TI := fun σ H R => ta σ H fun vs H1 => ∃ j : Int, vs = [.int j] ∧ -(2 ^ 62) ≤ j ∧ j < 2 ^ 62 ∧ R (Itr 0 j.toNat) H1
def iRng2 (ta : TA) : TI := fun σ H R => ta σ H fun vs H1 => ∃ i j : Int, vs = [.int i, .int j] ∧ (-(2 ^ 62) ≤ i ∧ i < 2 ^ 62 ∧ -(2 ^ 62) ≤ j ∧ j < 2 ^ 62) ∧ R (Itr i (j - i).toNat) H1
theorem pi_range1 {a : Expr} {ta : TA} {p pos : Pos} (hg : Gl X "range") (hm : X.mg "range" = none) (ha : PA X [a] ta) (hs : starEach [a] X.env = [(false, eval a X.env)] := by rfl) : PI X tg (.Call (.Name "range" p) [a] [] pos) (iRng1 ta) := by
  intro pins s σ H R I h
  refine Call_ (ld_blt I hg hm boot_range (PyProof.Rows.callWith_type1 (thn (ha pos pins s σ H _ I h) fun us s1 ⟨vs, H1, I1, r1, q1⟩ => ?_) hs rfl))
  obtain ⟨j, e, q1, q2, q⟩ := q1
  subst e
  cases r1 with
  | cons r rr =>
    cases rr
    obtain ⟨t, rfl⟩ := r
    exact call_range_1 (range_it I1 (by omega) (by omega) q1 q2 (by simpa using q))
theorem pi_range2 {a b : Expr} {ta : TA} {p pos : Pos} (hg : Gl X "range") (hm : X.mg "range" = none) (ha : PA X [a, b] ta) (hs : starEach [a, b] X.env = [(false, eval a X.env), (false, eval b X.env)] := by rfl) (hs2 : starEach [b] X.env = [(false, eval b X.env)] := by rfl) :
    PI X tg (.Call (.Name "range" p) [a, b] [] pos) (iRng2 ta) := by
  intro pins s σ H R I h
  refine Call_ (ld_blt I hg hm boot_range (PyProof.Rows.callWith_type1 (thn (ha pos pins s σ H _ I h) fun us s1 ⟨vs, H1, I1, r1, q1⟩ => ?_) (by rw [hs, hs2]) (by rw [hs2]; rfl)))
  obtain ⟨i, j, e, ⟨q1, q2, q3, q4⟩, q⟩ := q1
  subst e
  cases r1 with
  | cons r rr =>
    cases rr with
    | cons r' rr =>
      cases rr
      obtain ⟨t, rfl⟩ := r
      obtain ⟨t', rfl⟩ := r'
      exact call_range_2 (range_it I1 q1 q2 q3 q4 q)

/-! ### for -/
/-- W: the invariant by the turn and a measure; N: what the body is to reach -/
def tFor (wi : TI) (g : TG) (tb : TS) : TS := fun D σ H => wi σ H fun J H1 => ∃ W : Nat → Nat → St → Hp → Prop, (∃ m, W 0 m σ H1) ∧ ∀ i m σ H, W i m σ H →
  (J.stop i H ∧ D.nx σ H) ∨ (J.go i H ∧ ∃ N : St → Hp → Prop, (∀ σ' H', N σ' H' → ∃ m', m' < m ∧ W (i + 1) m' σ' H') ∧ ∀ x H', J.yld i H x H' → g x σ H' fun σ2 H2 => tb { D with nx := N, ct := N, bk := D.nx } σ2 H2)
/-- the records at fp as they stand -/
def pinsAt (fp : List Addr) (h : Heap) : List (Addr × Obj) := fp.filterMap fun b => (h.get? b).map fun o => (b, o)
theorem mem_pinsAt {fp : List Addr} {h : Heap} {b : Addr} {o : Obj} (hb : b ∈ fp) (e : h.get? b = some o) : (b, o) ∈ pinsAt fp h := List.mem_filterMap.mpr ⟨b, hb, by rw [e]; rfl⟩
theorem of_pinsAt {fp : List Addr} {h : Heap} {p : Addr × Obj} (hp : p ∈ pinsAt fp h) : p.1 ∈ fp ∧ h.get? p.1 = some p.2 := by
  obtain ⟨b, hb, e⟩ := List.mem_filterMap.mp hp
  cases q : h.get? b with
  | none => rw [q] at e; cases e
  | some o =>
    rw [q] at e
    have e' : (b, o) = p := Option.some.inj e
    subst e'
    exact ⟨hb, q⟩
theorem Inv.pinned {pins : List (Addr × Obj)} {σ : St} {H : Hp} {s : Shared} {fp : List Addr} (I : Inv X pins σ H s) (hf : ∀ b ∈ fp, FpOk X pins H b) (ho : ∀ b ∈ fp, ∃ o, s.heap.get? b = some o ∧ ∀ v, o.data ≠ .cell v) : Inv X (pins ++ pinsAt fp s.heap) σ H s :=
  I.pins_of fun p hp => (List.mem_append.mp hp).elim (fun z => I.pin p (List.mem_append_right _ z)) fun z => by
    obtain ⟨hb, e⟩ := of_pinsAt z
    obtain ⟨f0, f1, f2, _⟩ := hf p.1 hb
    obtain ⟨o, e', d⟩ := ho p.1 hb
    rw [e] at e'; cases e'
    exact ⟨e, f0, f1, f2, d⟩
theorem Inv.unpinned {pins pl : List (Addr × Obj)} {σ : St} {H : Hp} {s : Shared} (I : Inv X (pins ++ pl) σ H s) : Inv X pins σ H s := I.pins_of fun p hp => I.pin p (List.mem_append_right _ (List.mem_append_left _ hp))
theorem ps_for {iter : Expr} {body : List Stmt} {wi : TI} {g : TG} {tb : TS} {pos : Pos} (hp : PassesOwn (model X.prog X.w) X.A X.env X.xe) (hc : X.calm = true) (hi : PI X tg iter wi) (hg : PG X tg g) (hb : PSs X body tb)
    (hs : ∀ x, foldedSetIterable iter X.env x = pure x := by intro _; rfl) : PS X (.For tg iter body [] pos) (tFor wi g tb) := by
  intro pins s σ H D I h
  refine wpAny_For (thn (hi pins s σ H _ I h) fun v s1 h1 => thn h1 fun itv s2 h2 => ?_) hs
  obtain ⟨it, fp, tn, J, H2, e, I2, T, st2, f2, W, ⟨m0, w0⟩, turn⟩ := h2
  subst e
  -- what stays true of the iterator's objects through the loop
  have stat : ∀ {H' : Hp}, (∀ b ∈ fp, H' b = none) → ∀ b ∈ fp, FpOk X pins H' b := fun hn b hb => ⟨hn b hb, (f2 b hb).2⟩
  refine codeAny_forLoop_any (fun n s' => ∃ i σ' H', Inv X pins σ' H' s' ∧ tn i s'.heap ∧ (∀ b ∈ fp, H' b = none) ∧ W i n σ' H') ?_ m0 ⟨0, σ, H2, I2, st2, fun b hb => (f2 b hb).1, w0⟩
  rintro n s3 ⟨i, σ3, H3, I3, st3, fr3, w3⟩
  rcases turn i n σ3 H3 w3 with ⟨stop, qn⟩ | ⟨go, N, hN, step⟩
  · refine wpAny_passesOwn hp (thn (T.done X rfl rfl rfl hc i pins s3 σ3 H3 X.xe I3 (stat fr3) st3 stop) fun r s4 ⟨hr, I4⟩ => ?_)
    subst hr
    exact wpAny_execs_nil ⟨σ3, H3, I4, qn⟩
  · refine wpAny_passesOwn hp (thn (T.item X rfl rfl rfl hc i pins s3 σ3 H3 X.xe I3 (stat fr3) st3 go) fun r s4 ⟨u, hr, h4⟩ => ?_)
    subst hr
    refine wpAny_passesOwn hp (thn h4 fun _ s5 ⟨x, H5, I5, r5, y5, st5, fr5⟩ => ?_)
    have I5' := I5.pinned (stat fr5) (T.obj _ _ st5)
    refine wpAny_passesOwn hp (thn (hg _ s5 σ3 H5 x u _ I5' r5 (step x H5 y5)) fun _ s6 ⟨σ6, H6, I6, q6⟩ => ?_)
    refine wpAny_passesOwn hp (thn (hb _ s6 σ6 H6 _ I6 q6) fun f s7 q7 => ?_)
    have again : ∀ {σ7 : St} {H7 : Hp}, Inv X (pins ++ pinsAt fp s5.heap) σ7 H7 s7 → N σ7 H7 → ∃ m, m < n ∧ ∃ i σ' H', Inv X pins σ' H' s7 ∧ tn i s7.heap ∧ (∀ b ∈ fp, H' b = none) ∧ W i m σ' H' := fun {σ7 H7} I7 n7 => by
      obtain ⟨m', hm, w7⟩ := hN σ7 H7 n7
      refine ⟨m', hm, i + 1, σ7, H7, I7.unpinned, T.keep _ _ _ st5 fun b hb o e => (I7.pin (b, o) (List.mem_append_right _ (List.mem_append_right _ (mem_pinsAt hb e)))).1, fun b hb => ?_, w7⟩
      obtain ⟨o, e, d⟩ := T.obj _ _ st5 b hb
      exact (I7.pin (b, o) (List.mem_append_right _ (List.mem_append_right _ (mem_pinsAt hb e)))).2.1
    cases f with
    | next => obtain ⟨σ7, H7, I7, n7⟩ := q7; exact again I7 n7
    | cont => obtain ⟨σ7, H7, I7, n7⟩ := q7; exact again I7 n7
    | brk => obtain ⟨σ7, H7, I7, q7⟩ := q7; exact ⟨σ7, H7, I7.unpinned, q7⟩
    | ret v => obtain ⟨x7, σ7, H7, I7, r7, q7⟩ := q7; exact ⟨x7, σ7, H7, I7.unpinned, r7, q7⟩
end

/-! ### the forms one uses -/
/-- over a list that the body leaves as it is -/
theorem for_list {K : PySem.W.Frag} {a : Addr} {xs : List V} {g : TG} {tb : TS} {D : Ends} {σ : St} {H : Hp} (Pv : Nat → St → Hp → Prop) (h0 : Pv 0 σ H) (hl : ∀ i σ H, i ≤ xs.length → Pv i σ H → SqL K H a xs)
    (hs : ∀ i x σ H, xs[i]? = some x → Pv i σ H → g x σ H fun σ2 H2 => tb { D with nx := Pv (i + 1), ct := Pv (i + 1), bk := D.nx } σ2 H2) (hd : ∀ σ H, Pv xs.length σ H → D.nx σ H) :
    ∃ W : Nat → Nat → St → Hp → Prop, (∃ m, W 0 m σ H) ∧ ∀ i m σ H, W i m σ H →
      ((Itl K a).stop i H ∧ D.nx σ H) ∨ ((Itl K a).go i H ∧ ∃ N : St → Hp → Prop, (∀ σ' H', N σ' H' → ∃ m', m' < m ∧ W (i + 1) m' σ' H') ∧ ∀ x H', (Itl K a).yld i H x H' → g x σ H' fun σ2 H2 => tb { D with nx := N, ct := N, bk := D.nx } σ2 H2) := by
  refine ⟨fun i m σ H => m = xs.length - i ∧ i ≤ xs.length ∧ Pv i σ H, ⟨xs.length, by simp, Nat.zero_le _, h0⟩, ?_⟩
  rintro i m σ H ⟨rfl, hi, p⟩
  have q := hl i σ H hi p
  by_cases hlt : i < xs.length
  · refine .inr ⟨⟨xs, xs[i], q, by simp [hlt]⟩, Pv (i + 1), fun σ' H' p' => ⟨xs.length - (i + 1), by omega, rfl, hlt, p'⟩, fun x H' y => ?_⟩
    obtain ⟨e, y⟩ := y
    subst e
    exact hs i x σ _ (y xs q) p
  · have e : i = xs.length := by omega
    subst e
    exact .inl ⟨⟨xs, q, Nat.le_refl _⟩, hd σ H p⟩
theorem for_tup {K : PySem.W.Frag} {a : Addr} {xs : List V} {g : TG} {tb : TS} {D : Ends} {σ : St} {H : Hp} (Pv : Nat → St → Hp → Prop) (h0 : Pv 0 σ H) (hl : ∀ i σ H, i ≤ xs.length → Pv i σ H → SqT K H a xs)
    (hs : ∀ i x σ H, xs[i]? = some x → Pv i σ H → g x σ H fun σ2 H2 => tb { D with nx := Pv (i + 1), ct := Pv (i + 1), bk := D.nx } σ2 H2) (hd : ∀ σ H, Pv xs.length σ H → D.nx σ H) :
    ∃ W : Nat → Nat → St → Hp → Prop, (∃ m, W 0 m σ H) ∧ ∀ i m σ H, W i m σ H →
      ((Itt K a).stop i H ∧ D.nx σ H) ∨ ((Itt K a).go i H ∧ ∃ N : St → Hp → Prop, (∀ σ' H', N σ' H' → ∃ m', m' < m ∧ W (i + 1) m' σ' H') ∧ ∀ x H', (Itt K a).yld i H x H' → g x σ H' fun σ2 H2 => tb { D with nx := N, ct := N, bk := D.nx } σ2 H2) := by
  refine ⟨fun i m σ H => m = xs.length - i ∧ i ≤ xs.length ∧ Pv i σ H, ⟨xs.length, by simp, Nat.zero_le _, h0⟩, ?_⟩
  rintro i m σ H ⟨rfl, hi, p⟩
  have q := hl i σ H hi p
  by_cases hlt : i < xs.length
  · refine .inr ⟨⟨xs, xs[i], q, by simp [hlt]⟩, Pv (i + 1), fun σ' H' p' => ⟨xs.length - (i + 1), by omega, rfl, hlt, p'⟩, fun x H' y => ?_⟩
    obtain ⟨e, y⟩ := y
    subst e
    exact hs i x σ _ (y xs q) p
  · have e : i = xs.length := by omega
    subst e
    exact .inl ⟨⟨xs, q, Nat.le_refl _⟩, hd σ H p⟩
theorem for_range {lo : Int} {n : Nat} {g : TG} {tb : TS} {D : Ends} {σ : St} {H : Hp} (Pv : Nat → St → Hp → Prop) (h0 : Pv 0 σ H)
    (hs : ∀ i σ H, i < n → Pv i σ H → g (.int (lo + i)) σ H fun σ2 H2 => tb { D with nx := Pv (i + 1), ct := Pv (i + 1), bk := D.nx } σ2 H2) (hd : ∀ σ H, Pv n σ H → D.nx σ H) :
    ∃ W : Nat → Nat → St → Hp → Prop, (∃ m, W 0 m σ H) ∧ ∀ i m σ H, W i m σ H →
      ((Itr lo n).stop i H ∧ D.nx σ H) ∨ ((Itr lo n).go i H ∧ ∃ N : St → Hp → Prop, (∀ σ' H', N σ' H' → ∃ m', m' < m ∧ W (i + 1) m' σ' H') ∧ ∀ x H', (Itr lo n).yld i H x H' → g x σ H' fun σ2 H2 => tb { D with nx := N, ct := N, bk := D.nx } σ2 H2) := by
  refine ⟨fun i m σ H => m = n - i ∧ i ≤ n ∧ Pv i σ H, ⟨n, by simp, Nat.zero_le _, h0⟩, ?_⟩
  rintro i m σ H ⟨rfl, hi, p⟩
  by_cases hlt : i < n
  · refine .inr ⟨hlt, Pv (i + 1), fun σ' H' p' => ⟨n - (i + 1), by omega, rfl, hlt, p'⟩, fun x H' y => ?_⟩
    obtain ⟨e, y⟩ := y
    subst e y
    exact hs i σ _ hlt p
  · have e : i = n := by omega
    subst e
    exact .inl ⟨Nat.le_refl _, hd σ H p⟩
end L2

namespace L2
open PySem PySem.Spec PyProof.Rows

abbrev R2 := V → V → Hp → VK → Prop
/-- a two-place operation on values: f is binaryOp op, inplaceOp op or compareOp op -/
def OpR (X : Cx) (f : Value → Value → Sem Value) (r : R2) : Prop :=
  ∀ (pins : List (Addr × Obj)) (s : Shared) (σ : St) (H : Hp) (x y : V) (v u : Value) (Q : VK), Inv X pins σ H s → RelV x v → RelV y u → r x y H Q →
    wpAny (model X.prog X.w) X.A (f v u) (EP X pins σ Q) X.xe s
/-- a one-place operation -/
def UnR (X : Cx) (f : Value → Sem Value) (r : V → Hp → VK → Prop) : Prop :=
  ∀ (pins : List (Addr × Obj)) (s : Shared) (σ : St) (H : Hp) (x : V) (v : Value) (Q : VK), Inv X pins σ H s → RelV x v → r x H Q →
    wpAny (model X.prog X.w) X.A (f v) (EP X pins σ Q) X.xe s
/-- a call of a value that is known (a builtin, a type) with values -/
def CallR (X : Cx) (f : Value) (r : List V → Hp → VK → Prop) : Prop :=
  ∀ (pins : List (Addr × Obj)) (s : Shared) (σ : St) (H : Hp) (xs : List V) (us : List Value) (Q : VK), Inv X pins σ H s → Vals xs us → r xs H Q →
    wpAny (model X.prog X.w) X.A (call f us) (EP X pins σ Q) X.xe s
/-- a value's truth -/
def TruR (X : Cx) (r : V → Hp → (Bool → Hp → Prop) → Prop) : Prop :=
  ∀ (pins : List (Addr × Obj)) (s : Shared) (σ : St) (H : Hp) (x : V) (v : Value) (Q : Bool → Hp → Prop), Inv X pins σ H s → RelV x v → r x H Q →
    wpAny (model X.prog X.w) X.A (truthy v) (TP X pins σ Q) X.xe s

def tOp (r : R2) (ta tb : TE) : TE := fun σ H Q => ta σ H fun x H1 => tb σ H1 fun y H2 => r x y H2 Q
def tUn (r : V → Hp → VK → Prop) (ta : TE) : TE := fun σ H Q => ta σ H fun x H1 => r x H1 Q
/-- ints in, under C, and a value out -/
def rI (C : Int → Int → Prop) (g : Int → Int → V) : R2 := fun x y H Q => ∃ i j, x = .int i ∧ y = .int j ∧ C i j ∧ Q (g i j) H
def rI0 (g : Int → Int → V) : R2 := fun x y H Q => ∃ i j, x = .int i ∧ y = .int j ∧ Q (g i j) H
def rU (g : Int → V) : V → Hp → VK → Prop := fun x H Q => ∃ i, x = .int i ∧ Q (g i) H

section
variable {X : Cx} {a b c : Expr} {ta tb tc : TE} {pos : Pos}

theorem binT (ha : PE X a ta) (hb : PE X b tb) {pins : List (Addr × Obj)} {s : Shared} {σ : St} {H : Hp} {R : V → V → Hp → Prop} (I : Inv X pins σ H s)
    (h : ta σ H fun x H1 => tb σ H1 fun y H2 => R x y H2) {Q : Value → Shared → Prop} {f : Value → Value → Sem Value}
    (hf : ∀ v u s2 x y H2, Inv X pins σ H2 s2 → RelV x v → RelV y u → R x y H2 → wpAny (model X.prog X.w) X.A (f v u) Q X.xe s2) :
    wpAny (model X.prog X.w) X.A (eval a X.env) (fun v s₁ => wpAny (model X.prog X.w) X.A (eval b X.env) (fun u s₂ => wpAny (model X.prog X.w) X.A (f v u) Q X.xe s₂) X.xe s₁) X.xe s := by
  refine thn (ha pins s σ H _ I h) fun v s1 ⟨x, H1, I1, r1, q1⟩ => ?_
  refine thn (hb pins s1 σ H1 _ I1 q1) fun u s2 ⟨y, H2, I2, r2, q2⟩ => ?_
  exact hf v u s2 x y H2 I2 r1 r2 q2

theorem pe_op {op : Operator} {r : R2} (ho : OpR X (binaryOp op) r) (ha : PE X a ta) (hb : PE X b tb) : PE X (.BinOp a op b pos) (tOp r ta tb) := by
  intro pins s σ H Q I h
  exact wpAny_BinOp (binT ha hb I h fun v u s2 x y H2 I2 rx ry q => ho pins s2 σ H2 x y v u Q I2 rx ry q)
theorem pe_un {op : UnaryOp} {r : V → Hp → VK → Prop} (ho : UnR X (unaryOp op) r) (ha : PE X a ta) : PE X (.UnaryOp op a pos) (tUn r ta) := by
  intro pins s σ H Q I h
  exact UnaryOp_ (thn (ha pins s σ H _ I h) fun v s1 ⟨x, H1, I1, r1, q1⟩ => ho pins s1 σ H1 x v Q I1 r1 q1)
/-! ### ints -/
theorem opI {f : Value → Value → Sem Value} {C : Int → Int → Prop} {g : Int → Int → Int}
    (rule : ∀ (i j : Int) (t u : Tok) (s : Shared) (Q : Value → Shared → Prop) (E : Value → Shared → Prop), C i j → Q (.int (g i j) s.toks) { s with toks := s.toks + 1 } → wpAny (model X.prog X.w) X.A (f (.int i t) (.int j u)) Q E s) :
    OpR X f (rI C fun i j => .int (g i j)) := by
  intro pins s σ H x y v u Q I rx ry h
  obtain ⟨i, j, rfl, rfl, hc, q⟩ := h
  obtain ⟨t, rfl⟩ := rx
  obtain ⟨t', rfl⟩ := ry
  exact rule i j t t' s _ _ hc ⟨.int (g i j), H, I.tok _, ⟨_, rfl⟩, q⟩
theorem opI0 {f : Value → Value → Sem Value} {g : Int → Int → Int}
    (rule : ∀ (i j : Int) (t u : Tok) (s : Shared) (Q : Value → Shared → Prop) (E : Value → Shared → Prop), Q (.int (g i j) s.toks) { s with toks := s.toks + 1 } → wpAny (model X.prog X.w) X.A (f (.int i t) (.int j u)) Q E s) :
    OpR X f (rI0 fun i j => .int (g i j)) := by
  intro pins s σ H x y v u Q I rx ry h
  obtain ⟨i, j, rfl, rfl, q⟩ := h
  obtain ⟨t, rfl⟩ := rx
  obtain ⟨t', rfl⟩ := ry
  exact rule i j t t' s _ _ ⟨.int (g i j), H, I.tok _, ⟨_, rfl⟩, q⟩
theorem opB0 {f : Value → Value → Sem Value} {g : Int → Int → Bool}
    (rule : ∀ (i j : Int) (t u : Tok) (s : Shared) (Q : Value → Shared → Prop) (E : Value → Shared → Prop), Q (.bool (g i j)) s → wpAny (model X.prog X.w) X.A (f (.int i t) (.int j u)) Q E s) :
    OpR X f (rI0 fun i j => .bl (g i j)) := by
  intro pins s σ H x y v u Q I rx ry h
  obtain ⟨i, j, rfl, rfl, q⟩ := h
  obtain ⟨t, rfl⟩ := rx
  obtain ⟨t', rfl⟩ := ry
  exact rule i j t t' s _ _ ⟨.bl (g i j), H, I, rfl, q⟩

def CPow (i j : Int) : Prop := 0 ≤ j ∧ j ≤ 1000000 ∧ i.natAbs < 2 ^ 64
def CMul (i j : Int) : Prop := (-(2 ^ 64) < i ∧ i < 2 ^ 64) ∨ (-(2 ^ 64) < j ∧ j < 2 ^ 64)
theorem CMul.ok {i j : Int} (h : CMul i j) : IntMulOk i j := by
  rcases h with ⟨h1, h2⟩ | ⟨h1, h2⟩
  · exact .of_left (intBits_le_64 h1 h2)
  · exact .of_right (intBits_le_64 h1 h2)
theorem op_add : OpR X (binaryOp .Add) (rI0 fun i j => .int (i + j)) := opI0 fun _ _ _ _ _ _ _ q => add_int q
theorem op_sub : OpR X (binaryOp .Sub) (rI0 fun i j => .int (i - j)) := opI0 fun _ _ _ _ _ _ _ q => sub_int q
theorem op_mul : OpR X (binaryOp .Mult) (rI CMul fun i j => .int (i * j)) := opI fun _ _ _ _ _ _ _ hc q => mul_int q hc.ok
/-- % by a positive divisor of any size -/
theorem op_mod : OpR X (binaryOp .Mod) (rI (fun _ j => 0 < j) fun i j => .int (i % j)) := opI fun i j _ _ _ _ _ hc q => by
  have h1 : (0 : Int) < j := hc
  exact mod_int' (by omega) (by rw [Int.fmod_eq_emod_of_nonneg i (by omega)]; exact q)
theorem op_pow : OpR X (binaryOp .Pow) (rI CPow fun i j => .int (i ^ j.toNat)) := opI fun _ _ _ _ _ _ _ hc q => pow_int_small hc.1 hc.2.1 hc.2.2 q
theorem unI {f : Value → Sem Value} {g : Int → Int}
    (rule : ∀ (i : Int) (t : Tok) (s : Shared) (Q : Value → Shared → Prop) (E : Value → Shared → Prop), Q (.int (g i) s.toks) { s with toks := s.toks + 1 } → wpAny (model X.prog X.w) X.A (f (.int i t)) Q E s) :
    UnR X f (rU fun i => .int (g i)) := by
  intro pins s σ H x v Q I rx h
  obtain ⟨i, rfl, q⟩ := h
  obtain ⟨t, rfl⟩ := rx
  exact rule i t s _ _ ⟨.int (g i), H, I.tok _, ⟨_, rfl⟩, q⟩
theorem un_neg : UnR X (unaryOp .USub) (rU fun i => .int (-i)) := unI fun _ _ _ _ _ q => neg_int q
/-! ### bools among ints: n += (a < b) -/
end

/-! ### comparisons -/
/-- the scalars that == tells apart as data does -/
def scal : V → V → Bool
  | .non, .non => true | .non, .int _ => true | .int _, .non => true | .non, .bl _ => true | .bl _, .non => true | .non, .str _ => true | .str _, .non => true
  | .int _, .int _ => true | .bl _, .bl _ => true | .str _, .str _ => true | .byt _, .byt _ => true
  | .int _, .str _ => true | .str _, .int _ => true | .bl _, .str _ => true | .str _, .bl _ => true
  | _, _ => false
def rEq : R2 := fun x y H Q => scal x y = true ∧ Q (.bl (decide (x = y))) H
def rNe : R2 := fun x y H Q => scal x y = true ∧ Q (.bl (!decide (x = y))) H

theorem dec_int {i j : Int} : decide (V.int i = V.int j) = (i == j) := by
  rw [Bool.eq_iff_iff]
  simp
theorem dec_bl {i j : Bool} : decide (V.bl i = V.bl j) = (i == j) := by
  rw [Bool.eq_iff_iff]
  simp
theorem dec_str {i j : Str} : decide (V.str i = V.str j) = (i == j) := by
  rw [Bool.eq_iff_iff]
  simp
theorem dec_byt {i j : Array UInt8} : decide (V.byt i = V.byt j) = (i.toList == j.toList) := by
  rw [Bool.eq_iff_iff]
  cases i
  cases j
  simp

section
variable {X : Cx} {a b c : Expr} {ta tb tc : TE} {pos : Pos}
theorem fin_bl {pins : List (Addr × Obj)} {σ : St} {H : Hp} {s : Shared} {Q : VK} {k k' : Bool} (I : Inv X pins σ H s) (q : Q (.bl k) H) (e : k = k') : EP X pins σ Q (.bool k') s := by
  subst e
  exact ⟨.bl k, H, I, rfl, q⟩
theorem op_eq : OpR X (compareOp .Eq) rEq := by
  intro pins s σ H x y v u Q I rx ry h
  obtain ⟨hs, q⟩ := h
  cases x with
  | non =>
    cases rx
    cases y with
    | non => cases ry; exact PySem.EqNone.eq_none_none (fin_bl I q (by simp))
    | bl j => cases ry; exact PySem.EqNone.eq_none_bool (fin_bl I q (by simp))
    | int j => obtain ⟨t', rfl⟩ := ry; exact PySem.EqNone.eq_none_int (fin_bl I q (by simp))
    | str j => obtain ⟨t', rfl⟩ := ry; exact PySem.EqNone.eq_none_str (fin_bl I q (by simp))
    | _ => exact absurd (show false = true from hs) Bool.false_ne_true
  | bl i =>
    cases rx
    cases y with
    | non => cases ry; exact PySem.EqNone.eq_bool_none (fin_bl I q (by simp))
    | bl j => cases ry; exact eq_bool (fin_bl I q dec_bl)
    | str j => obtain ⟨t', rfl⟩ := ry; exact PySem.EqMixed.eq_bool_str (fin_bl I q (by simp))
    | _ => exact absurd (show false = true from hs) Bool.false_ne_true
  | int i =>
    obtain ⟨t, rfl⟩ := rx
    cases y with
    | non => cases ry; exact PySem.EqNone.eq_int_none (fin_bl I q (by simp))
    | int j => obtain ⟨t', rfl⟩ := ry; exact eq_int (fin_bl I q dec_int)
    | str j => obtain ⟨t', rfl⟩ := ry; exact PySem.EqMixed.eq_int_str (fin_bl I q (by simp))
    | _ => exact absurd (show false = true from hs) Bool.false_ne_true
  | str i =>
    obtain ⟨t, rfl⟩ := rx
    cases y with
    | non => cases ry; exact PySem.EqNone.eq_str_none (fin_bl I q (by simp))
    | bl j => cases ry; exact PySem.EqMixed.eq_str_bool (fin_bl I q (by simp))
    | int j => obtain ⟨t', rfl⟩ := ry; exact PySem.EqMixed.eq_str_int (fin_bl I q (by simp))
    | str j => obtain ⟨t', rfl⟩ := ry; exact eq_str (fin_bl I q dec_str)
    | _ => exact absurd (show false = true from hs) Bool.false_ne_true
  | byt i =>
    obtain ⟨t, rfl⟩ := rx
    cases y with
    | byt j => obtain ⟨t', rfl⟩ := ry; exact PySem.W.eq_bytes (fin_bl I q dec_byt)
    | _ => exact absurd (show false = true from hs) Bool.false_ne_true
  | _ => cases y <;> exact absurd (show false = true from hs) Bool.false_ne_true
theorem op_ne : OpR X (compareOp .NotEq) rNe := by
  intro pins s σ H x y v u Q I rx ry h
  obtain ⟨hs, q⟩ := h
  cases x with
  | non =>
    cases rx
    cases y with
    | non => cases ry; exact PySem.EqNone.ne_none_none (fin_bl I q (by simp))
    | bl j => cases ry; exact PySem.EqNone.ne_none_bool (fin_bl I q (by simp))
    | int j => obtain ⟨t', rfl⟩ := ry; exact PySem.EqNone.ne_none_int (fin_bl I q (by simp))
    | str j => obtain ⟨t', rfl⟩ := ry; exact PySem.EqNone.ne_none_str (fin_bl I q (by simp))
    | _ => exact absurd (show false = true from hs) Bool.false_ne_true
  | bl i =>
    cases rx
    cases y with
    | non => cases ry; exact PySem.EqNone.ne_bool_none (fin_bl I q (by simp))
    | bl j => cases ry; exact ne_bool (fin_bl I q (congrArg not dec_bl))
    | str j => obtain ⟨t', rfl⟩ := ry; exact PySem.EqMixed.ne_bool_str (fin_bl I q (by simp))
    | _ => exact absurd (show false = true from hs) Bool.false_ne_true
  | int i =>
    obtain ⟨t, rfl⟩ := rx
    cases y with
    | non => cases ry; exact PySem.EqNone.ne_int_none (fin_bl I q (by simp))
    | int j => obtain ⟨t', rfl⟩ := ry; exact ne_int (fin_bl I q (congrArg not dec_int))
    | str j => obtain ⟨t', rfl⟩ := ry; exact PySem.EqMixed.ne_int_str (fin_bl I q (by simp))
    | _ => exact absurd (show false = true from hs) Bool.false_ne_true
  | str i =>
    obtain ⟨t, rfl⟩ := rx
    cases y with
    | non => cases ry; exact PySem.EqNone.ne_str_none (fin_bl I q (by simp))
    | bl j => cases ry; exact PySem.EqMixed.ne_str_bool (fin_bl I q (by simp))
    | int j => obtain ⟨t', rfl⟩ := ry; exact PySem.EqMixed.ne_str_int (fin_bl I q (by simp))
    | str j => obtain ⟨t', rfl⟩ := ry; exact ne_str (fin_bl I q (congrArg not dec_str))
    | _ => exact absurd (show false = true from hs) Bool.false_ne_true
  | byt i =>
    obtain ⟨t, rfl⟩ := rx
    cases y with
    | byt j => obtain ⟨t', rfl⟩ := ry; exact PySem.W.ne_bytes (fin_bl I q (congrArg not dec_byt))
    | _ => exact absurd (show false = true from hs) Bool.false_ne_true
  | _ => cases y <;> exact absurd (show false = true from hs) Bool.false_ne_true

theorem op_lt : OpR X (compareOp .Lt) (rI0 fun i j => .bl (decide (i < j))) := opB0 fun _ _ _ _ _ _ _ q => lt_int q
theorem op_le : OpR X (compareOp .LtE) (rI0 fun i j => .bl (decide (i ≤ j))) := opB0 fun _ _ _ _ _ _ _ q => le_int q
theorem op_gt : OpR X (compareOp .Gt) (rI0 fun i j => .bl (decide (j < i))) := opB0 fun _ _ _ _ _ _ _ q => gt_int q
theorem op_ge : OpR X (compareOp .GtE) (rI0 fun i j => .bl (decide (j ≤ i))) := opB0 fun _ _ _ _ _ _ _ q => ge_int q
/-- is None, is not None: the right side a value none -/
theorem op_isN : OpR X (compareOp .Is) (fun x y H Q => y = .non ∧ Q (.bl (decide (x = .non))) H) := by
  intro pins s σ H x y v u Q I rx ry h
  obtain ⟨rfl, q⟩ := h
  cases ry
  refine is_none_gen (fin_bl I q ?_)
  cases x <;> first
    | (cases rx; rfl)
    | (obtain ⟨t, rfl⟩ := rx; rfl)
theorem nomark (b : Expr) {op : CmpOp} (h : op ≠ .In := by decide) (h2 : op ≠ .NotIn := by decide) : behindInMarks op b = false := by
  have e1 : (op == CmpOp.In) = false := by cases op <;> first | rfl | exact absurd rfl h
  have e2 : (op == CmpOp.NotIn) = false := by cases op <;> first | rfl | exact absurd rfl h2
  cases b <;> simp [behindInMarks, e1, e2]
/-- a comparison as a value; hm: nomark b, or (for in, not in) by with_unfolding_all rfl -/
theorem pe_cmpR {op : CmpOp} {r : R2} (ho : OpR X (compareOp op) r) (ha : PE X a ta) (hb : PE X b tb) (hm : behindInMarks op b = false) : PE X (.Compare a [op] [b] pos) (tOp r ta tb) := by
  intro pins s σ H Q I h
  exact wpAny_Compare1 (binT ha hb I h fun v u s2 x y H2 I2 rx ry q => ho pins s2 σ H2 x y v u Q I2 rx ry q) hm
/-- a reading of a value as a test -/
def tTest (t : TE) : TT := fun σ H Q => t σ H fun x H' => ∃ k, x = .bl k ∧ Q k H'
theorem pt_cmpR {op : CmpOp} {r : R2} (ho : OpR X (compareOp op) r) (ha : PE X a ta) (hb : PE X b tb) (hm : behindInMarks op b = false) : PT X (.Compare a [op] [b] pos) (tTest (tOp r ta tb)) := by
  intro pins s σ H Q I h
  refine wpAny_isTrue_Compare1 (thn (ha pins s σ H _ I h) fun v s1 ⟨x, H1, I1, r1, q1⟩ => thn (hb pins s1 σ H1 _ I1 q1) fun u s2 ⟨y, H2, I2, r2, q2⟩ =>
    thn (ho pins s2 σ H2 x y v u _ I2 r1 r2 q2) fun c s3 ⟨z, H3, I3, r3, k, e, q3⟩ => ?_) hm
  subst e
  cases r3
  exact wpAny_truthy_bool ⟨H3, I3, q3⟩
/-! ### truth -/
/-- a value's truth by the abstract heap -/
def TruV (K : PySem.W.Frag) (x : V) (H : Hp) (k : Bool) : Prop :=
  match x with
  | .non => k = false
  | .bl b => k = b
  | .int i => k = (i != 0)
  | .str y => y.length ≤ sizeLine ∧ k = ((y.length : Int) != 0)
  | .byt y => y.size ≤ sizeLine ∧ k = ((y.size : Int) != 0)
  | .ref p => (∃ xs, SqL K H p xs ∧ k = !xs.isEmpty) ∨ (∃ xs, SqT K H p xs ∧ k = !xs.isEmpty) ∨ ∃ kvs, H p = some (.dK kvs) ∧ k = !kvs.isEmpty
  | _ => False
theorem isEmpty_kv {κ : Type} {kvs : List (κ × V)} {vs : List (κ × Value)} (r : KV kvs vs) : (!vs.isEmpty) = !kvs.isEmpty := by
  cases r <;> rfl
theorem isEmpty_of {xs : List V} {its : List Value} (r : Vals xs its) : (!its.toArray.isEmpty) = !xs.isEmpty := by
  cases r <;> simp
theorem line63 : (sizeLine : Nat) < 2 ^ 63 := by rw [sizeLine_eq]; decide
theorem tru_ok : TruR X (fun x H Q => ∃ k, TruV X.K x H k ∧ Q k H) := by
  intro pins s σ H x v Q I rx h
  obtain ⟨k, e, q⟩ := h
  have hl := line63
  have hs : sizeLine = 16777216 := sizeLine_eq
  cases x with
  | non =>
    cases rx
    have e' : k = false := e
    subst e'
    exact truthy_none ⟨H, I, q⟩
  | bl b =>
    cases rx
    have e' : k = b := e
    subst e'
    exact wpAny_truthy_bool ⟨H, I, q⟩
  | int i =>
    obtain ⟨t, rfl⟩ := rx
    have e' : k = (i != 0) := e
    subst e'
    exact PySem.P.truthy_int ⟨H, I, q⟩
  | str y =>
    obtain ⟨t, rfl⟩ := rx
    obtain ⟨hy, e'⟩ : y.length ≤ sizeLine ∧ k = ((y.length : Int) != 0) := e
    subst e'
    exact PySem.P.truthy_str (by omega) ⟨H, I.tok _, q⟩
  | byt y =>
    obtain ⟨t, rfl⟩ := rx
    obtain ⟨hy, e'⟩ : y.size ≤ sizeLine ∧ k = ((y.size : Int) != 0) := e
    subst e'
    exact PySem.W.truthy_bytes (by omega) ⟨H, I.tok _, q⟩
  | ref p =>
    cases rx
    have e' : (∃ xs, SqL X.K H p xs ∧ k = !xs.isEmpty) ∨ (∃ xs, SqT X.K H p xs ∧ k = !xs.isEmpty) ∨ ∃ kvs, H p = some (.dK kvs) ∧ k = !kvs.isEmpty := e
    rcases e' with ⟨xs, hx, e'⟩ | ⟨xs, hx, e'⟩ | ⟨kvs, hx, e'⟩
    · subst e'
      obtain ⟨its, r, pl, hz⟩ := I.list hx
      have hlen := r.length
      exact wpAny_truthy_list pl.isList (by simp only [List.size_toArray]; omega) ⟨H, I.tok _, by rw [isEmpty_of r]; exact q⟩
    · subst e'
      obtain ⟨its, r, pl, hz⟩ := I.tuple hx
      have hlen := r.length
      exact truthy_tuple pl (by simp only [List.size_toArray]; omega) ⟨H, I.tok _, by rw [isEmpty_of r]; exact q⟩
    · subst e'
      obtain ⟨hz, hS, vs, r, m⟩ : kvs.length ≤ sizeLine ∧ (p == sysModules) = false ∧ ∃ vs, KV kvs vs ∧ s.heap.DictOf (mixKind X.prog X.w) p vs := I.hok p _ hx
      have hlen : kvs.length = vs.length := Paired.length r
      exact wpAny_truthy_dict hS m (by omega) ⟨H, I.tok _, by rw [isEmpty_kv r]; exact q⟩
  | _ => exact (show False from e).elim
/-- any expression whose test is its value's truth (a name, a call, a subscript, a field ..: he by fun _ => rfl) -/
theorem pt_truth (ha : PE X a ta) (he : ∀ whole, isTrue a X.env whole = (do let v ← whole; standAt a.pos; holding [v] (truthy v))) :
    PT X a (fun σ H Q => ta σ H fun x H' => ∃ k, TruV X.K x H' k ∧ Q k H') := by
  intro pins s σ H Q I h
  exact isTrue_plain (thn (ha pins s σ H _ I h) fun v s1 ⟨x, H1, I1, r1, q1⟩ => tru_ok pins s1 σ H1 x v Q I1 r1 q1) (he _)

/-! ### strs and bytes -/
/-! ### scalar builtins, by CallR -/
theorem vals1 {x : V} {us : List Value} (r : Vals [x] us) : ∃ u, us = [u] ∧ RelV x u := by
  cases r with
  | cons r1 r2 => cases r2; exact ⟨_, rfl, r1⟩
theorem vals2 {x y : V} {us : List Value} (r : Vals [x, y] us) : ∃ u w', us = [u, w'] ∧ RelV x u ∧ RelV y w' := by
  cases r with
  | cons r1 r2 =>
    cases r2 with
    | cons r3 r4 => cases r4; exact ⟨_, _, rfl, r1, r3⟩
theorem call_abs : CallR X (.builtin "abs") (fun xs H Q => ∃ i, xs = [.int i] ∧ Q (.int (if i < 0 then -i else i)) H) := by
  intro pins s σ H xs us Q I r h
  obtain ⟨i, rfl, q⟩ := h
  obtain ⟨u, rfl, t, rfl⟩ := vals1 r
  exact call_abs_int fun u tk => ⟨.int (if i < 0 then -i else i), H, I.tok _, ⟨_, rfl⟩, q⟩
theorem call_str_int : CallR X (.type "str") (fun xs H Q => ∃ i, xs = [.int i] ∧ i.natAbs.log2 < 1920 ∧ Q (.str (toString i)) H) := by
  intro pins s σ H xs us Q I r h
  obtain ⟨i, rfl, hz, q⟩ := h
  obtain ⟨u, rfl, t, rfl⟩ := vals1 r
  exact PySem.P.str_of_int hz ⟨.str _, H, I.tok _, ⟨_, rfl⟩, q⟩
end
end L2

namespace L2
open PySem PySem.Spec PyProof.Rows

/-! ### an instance, its attributes a map -/
structure ObjM (h : Heap) (x dx C : Addr) (mA : Str → Option Value) : Prop where
  obj : h.get? x = some (PySem.W.instObj C dx)
  ns : h.Ns1 dx mA
  ne : dx ≠ x

theorem lookIn_ns {h : Heap} {dx : Addr} {mA : Str → Option Value} (n : h.Ns1 dx mA) : ∃ od, h.get? dx = some od ∧ ∀ name, PySem.W.lookIn name od = some (mA name) := by
  obtain ⟨o, es, ep, ho, hd, hk, _, hm⟩ := n
  refine ⟨o, ho, fun name => ?_⟩
  have e := hm name
  unfold nsFind findBy at e
  rw [← Array.find?_toList] at e
  unfold PySem.W.lookIn
  rw [hd]
  dsimp only
  split
  · rename_i y q
    rw [q] at e
    exact congrArg some e
  · rename_i q
    rw [q] at e
    have a : es.toList.any (·.refKey) = false := by
      rw [List.any_eq_false]
      intro y hy
      obtain ⟨z, t, hkey⟩ := hk y (Array.mem_toList_iff.mp hy)
      simp [DictEntry.refKey, hkey]
    have a' : ¬ es.toList.any (·.refKey) = true := by rw [a]; exact Bool.false_ne_true
    rw [if_neg a']
    exact congrArg some e

theorem ObjM.look {h : Heap} {x dx C : Addr} {mA : Str → Option Value} (I : ObjM h x dx C mA) : ∃ od, PySem.W.InstAt h x (PySem.W.instObj C dx) C (some od) ∧ ∀ name, PySem.W.lookIn name od = some (mA name) :=
  let ⟨od, ho, hl⟩ := lookIn_ns I.ns
  ⟨od, ⟨I.obj, rfl, rfl, ho⟩, hl⟩

section
variable {prog : Program} {w : World} {A : Around} {E : Value → Shared → Prop} {s : Shared} {K : PySem.W.Frag} {x dx C f : Addr} {mA : Str → Option Value} {name : Str} {v : Value}

end

/-! ### the attributes as a list of pairs -/
theorem RelO.some_of {v : V} {o : Option Value} (r : RelO (some v) o) : ∃ u, o = some u ∧ RelV v u := by
  cases o with
  | none => exact (show False from r).elim
  | some u => exact ⟨u, rfl, r⟩
section
variable {P : Program} {w : World} {H H' : Hp} {h h' : Heap} {a C dx : Addr} {fs fs' : List (Str × V)}
theorem ins_get (hok : HOk P w H h) (e : H a = some (.ins C dx fs)) : ∃ mA, ObjM h a dx C mA ∧ (∀ f, RelO (fs.lookup f) (mA f)) ∧ PySem.Within mA (fs.map (·.1)) ∧ fs.length ≤ 1000 ∧ H dx = some (.own a) := by
  obtain ⟨d, z, ne, ob, mA, n, r, q⟩ := (show ObjOk P w H h a (.ins C dx fs) from hok a _ e)
  exact ⟨mA, ⟨ob, n, ne⟩, r, q, z, d⟩
end

/-! ### what of the text a class must have -/
structure Cls (K : PySem.W.Frag) (C : Addr) : Prop where
  pg : PySem.W.plainGet K C Str.empty = true
  hd : PySem.W.hasDictIn K C = true
  po : PySem.W.plainOver K C = true
  sa : PySem.W.findIn K (.ref C) "__setattr__" = some (some (.builtin "object.__setattr__"))
theorem Cls.get {K : PySem.W.Frag} {C : Addr} (c : Cls K C) (f : Str) : PySem.W.plainGet K C f = true := c.pg
section
variable {X : Cx} {pins : List (Addr × Obj)} {σ : St} {H : Hp} {s : Shared} {a C dx : Addr} {fs : List (Str × V)} {f : Str} {v : V} {A : Around} {E : Value → Shared → Prop}

end

/-! ### readings and rules -/
section
variable {X : Cx} {o e value : Expr} {f : Str} {pos pos' tpos : Pos} {ta tv : TE}
end

/-! ### isinstance -/
section
variable {X : Cx} {pins : List (Addr × Obj)} {σ : St} {H : Hp} {s : Shared} {A : Around} {E : Value → Shared → Prop} {Q : Value → Shared → Prop} {c : Value} {b : Bool}
/-- the type of a value, as the fragment's deciders take it; for an instance its class -/
inductive TyOf (K : PySem.W.Frag) (H : Hp) : V → Value → Prop where
  | non : TyOf K H .non (.type "NoneType")
  | bl (x : Bool) : TyOf K H (.bl x) (.type "bool")
  | int (i : Int) : TyOf K H (.int i) (.type "int")
  | str (x : Str) : TyOf K H (.str x) (.type "str")
  | flt (x : UInt64) : TyOf K H (.flt x) (.type "float")
  | lst {a : Addr} {xs : List V} (e : H a = some (.lst xs)) : TyOf K H (.ref a) (.type "list")
  | frz {a : Addr} {o : Obj} {xs : List V} (e : H a = some (.frz o (.lst xs))) : TyOf K H (.ref a) (.type "list")
  | tup {a : Addr} {xs : List V} (e : H a = some (.tup xs)) : TyOf K H (.ref a) (.type "tuple")
  | dK {a : Addr} {kvs : List (Key × V)} (e : H a = some (.dK kvs)) : TyOf K H (.ref a) (.type "dict")
  | dT {a : Addr} {kvs : List (List Key × V)} (e : H a = some (.dT kvs)) : TyOf K H (.ref a) (.type "dict")
  | ins {a C dx : Addr} {fs : List (Str × V)} (e : H a = some (.ins C dx fs)) (cl : Cls K C) (ha : PySem.W.findIn K (.ref C) "__class__" = some (some (.builtin "object.__class__")))
      (hn : PySem.W.specialIn K (.builtin "object.__class__") "__get__" = some (some (.builtin "getset_descriptor.__get__"))) (htk : PySem.W.takesIn K (.builtin "object.__class__") = some true)
      (hm : PySem.W.mroIn K C (.type "object") = some true) : TyOf K H (.ref a) (.ref C)
/-- isinstance(x, c) for one class c, a built-in or an own one: kitOne's answer -/
theorem isinst_ok {x : V} {u t : Value} (I : Inv X pins σ H s) (rx : RelV x u) (ty : TyOf X.K H x t) (e : PySem.W.kitOne X.K t c = some b) (h : ∀ tk, Q (.bool b) { s with toks := tk }) :
    wpAny (model X.prog X.w) A (call (.builtin "isinstance") [u, c]) Q E s := by
  cases ty with
  | non => cases (show u = Value.none from rx); exact PySem.W.kia_one PySem.W.kitx_none I.kIn True.intro e (fun z => nomatch z) h
  | bl y => cases (show u = Value.bool y from rx); exact PySem.W.kia_one PySem.W.kitx_bool I.kIn True.intro e (fun z => nomatch z) h
  | int i => obtain ⟨t, q⟩ := (show ∃ t, u = Value.int i t from rx); cases q; exact PySem.W.kia_one PySem.W.kitx_int I.kIn True.intro e (fun z => nomatch z) h
  | str y => obtain ⟨t, q⟩ := (show ∃ t, u = Value.str y t from rx); cases q; exact PySem.W.kia_one PySem.W.kitx_str I.kIn True.intro e (fun z => nomatch z) h
  | flt y => obtain ⟨t, q⟩ := (show ∃ t, u = Value.float y t from rx); cases q; exact PySem.W.kia_one PySem.W.kitx_float I.kIn True.intro e (fun z => nomatch z) h
  | @lst a xs ea =>
    cases (show u = Value.ref a from rx)
    obtain ⟨_, _, n, _, h1⟩ := (show ObjOk X.prog X.w H s.heap a (.lst xs) from I.hok a _ ea)
    exact PySem.W.kia_one PySem.W.kitx_list I.kIn ⟨_, h1, rfl⟩ e (fun z => nomatch z) h
  | @frz a ob xs ea =>
    cases (show u = Value.ref a from rx)
    obtain ⟨_, _, _, n, _, h1⟩ := (show ObjOk X.prog X.w H s.heap a (.frz ob (.lst xs)) from I.hok a _ ea)
    exact PySem.W.kia_one PySem.W.kitx_list I.kIn ⟨_, h1, rfl⟩ e (fun z => nomatch z) h
  | @tup a xs ea =>
    cases (show u = Value.ref a from rx)
    obtain ⟨_, _, _, p⟩ := (show ObjOk X.prog X.w H s.heap a (.tup xs) from I.hok a _ ea)
    obtain ⟨o, h1, h2, _⟩ := p
    exact PySem.W.kia_one PySem.W.kitx_tuple I.kIn ⟨o, h1, h2⟩ e (fun z => nomatch z) h
  | @dK a kvs ea =>
    cases (show u = Value.ref a from rx)
    obtain ⟨_, _, vs, _, p⟩ := (show ObjOk X.prog X.w H s.heap a (.dK kvs) from I.hok a _ ea)
    obtain ⟨o, es, ep, h1, h2, _⟩ := p
    exact PySem.W.kia_one PySem.W.kitx_dict I.kIn ⟨o, h1, h2.1⟩ e (fun z => nomatch z) h
  | @dT a kvs ea =>
    cases (show u = Value.ref a from rx)
    obtain ⟨_, _, xs, _, o, es, ep, h1, h2, _⟩ := (show ObjOk X.prog X.w H s.heap a (.dT kvs) from I.hok a _ ea)
    exact PySem.W.kia_one PySem.W.kitx_dict I.kIn ⟨o, h1, h2.1⟩ e (fun z => nomatch z) h
  | @ins a C dx fs ea cl ha hn htk hm =>
    cases (show u = Value.ref a from rx)
    obtain ⟨mA, O, _⟩ := ins_get I.hok ea
    obtain ⟨od, J, _⟩ := O.look
    exact PySem.W.kia_one (PySem.W.kitx_own (cl.get _) cl.hd ha hn htk hm) I.kIn J e (fun z => nomatch z) h
end
end L2

namespace L2
open PySem PySem.Spec PyProof.Rows

/-! ### room -/
structure Room (k : Nat) (A : Around) : Prop where
  hd : A.handled = none
  dp : A.depth + 3 * k + 5 < recursionLimit
  un : A.units + 16 * k + 200 < cLine
theorem Room.mono {j k : Nat} {A : Around} (r : Room k A) (h : j ≤ k) : Room j A := ⟨r.hd, by have := r.dp; omega, by have := r.un; omega⟩
theorem Room.deeper {k : Nat} {A : Around} (r : Room (k + 1) A) (env : Env) : Room k (A.deeper env) :=
  ⟨r.hd, by have := r.dp; show A.depth + 1 + 3 * k + 5 < _; omega, by have := r.un; show A.units + 3 + 16 * k + 200 < _; omega⟩
theorem Room.depth {k : Nat} {A : Around} (r : Room k A) : A.depth < recursionLimit := by have := r.dp; omega
/-! ### argument lists and displays -/
def tNil : TA := fun _ H Q => Q [] H
def tCons (ta : TE) (tr : TA) : TA := fun σ H Q => ta σ H fun x H1 => tr σ H1 fun xs H2 => Q (x :: xs) H2
section
variable {X : Cx} {e : Expr} {es : List Expr} {te : TE} {t : TA} {pos : Pos}
theorem pa_nil : PA X [] tNil := fun _ _ _ _ H Q I h => Calls.spliced_nil ⟨[], H, I, .nil, h⟩
theorem pa_cons (ha : PE X e te) (hr : PA X es t) (hs : starEach (e :: es) X.env = (false, eval e X.env) :: starEach es X.env := by rfl) : PA X (e :: es) (tCons te t) := by
  intro pos pins s σ H Q I h
  rw [hs]
  show wpAny _ _ (spliced ((false, eval e X.env) :: backTo pos (starEach es X.env))) _ _ s
  refine Calls.spliced_cons (thn (ha pins s σ H _ I h) fun u s1 ⟨x, H1, I1, r1, q1⟩ => ?_)
  exact thn (hr pos pins s1 σ H1 _ I1 q1) fun us s2 ⟨xs, H2, I2, r2, q2⟩ => ⟨x :: xs, H2, I2, .cons r1 r2, q2⟩

def tLst (t : TA) : TE := fun σ H Q => t σ H fun xs H1 => xs.length ≤ sizeLine ∧ ∀ p, H1 p = none → Q (.ref p) (upd H1 p (.lst xs))
theorem pe_lst (h : PA X es t) : PE X (.List es pos) (tLst t) := by
  intro pins s σ H Q I hq
  refine wpAny_List_spliced (thn (h pos pins s σ H _ I hq) fun us s1 ⟨xs, H1, I1, r, z, q⟩ => ⟨by rw [← r.length]; exact z, ?_⟩)
  have hf : H1 s1.heap.objs.size = none := I1.hok.fresh (Nat.le_refl _)
  refine ⟨.ref s1.heap.objs.size, upd H1 s1.heap.objs.size (.lst xs), I1.laid (t' := s1.toks) (fun b u e => Heap.get?_push_of_some _ e) (Nat.le_refl _) ?_, rfl, q _ hf⟩
  exact ⟨z, us, 0, r, Heap.get?_push_size _ rfl⟩
end

/-! ### what a def promises -/
/-- a def's promise: the bound arguments in the parameters' order, the heap, the wanted end, the wanted exception -/
abbrev Sp := List V → Hp → VK → XK → Prop
/-- how an exception lies behind a call (file 08 gives it): the callers' frames, abstract heap and state ahead of the call, the wish, the exception, the state -/
abbrev CXT := List Env → Hp → Shared → XK → Value → Shared → Prop

/-- the state at a call -/
structure Env0 (P : Program) (w : World) (K : PySem.W.Frag) (mg : Str → Option Value) (base : Heap) (A : Around) (outer : List Env) (s : Shared) (H : Hp) : Prop where
  frames : A.frames = some outer
  mod : Mod K mg base
  bs : ∀ b o, base.get? b = some o → s.heap.get? b = some o ∧ H b = none
  bsz : base.objs.size ≤ s.heap.objs.size
  funs : s.heap.FunFrames base outer
  frf : ∀ b ∈ frs outer, H b = none
  hok : HOk P w H s.heap
  bare : AllBare s.gens
/-- a call's end -/
def CE (outer : List Env) (P : Program) (w : World) (H : Hp) (s : Shared) (Q : VK) (u : Value) (s' : Shared) : Prop :=
  ∃ v H', s'.os = s.os ∧ AllBare s'.gens ∧ Un (frs outer) [] H H' s.heap s'.heap ∧ HOk P w H' s'.heap ∧ RelV v u ∧ Q v H'
def CR (CX : CXT) (outer : List Env) (P : Program) (w : World) (H : Hp) (s : Shared) (Q : VK) (E : XK) (r : Result) (s' : Shared) : Prop :=
  match r with
  | .ok (.ret u) => CE outer P w H s Q u s'
  | .ok _ => False
  | .error e => CX outer H s E e s'
structure FnOk (P : Program) (w : World) (K : PySem.W.Frag) (mg : Str → Option Value) (base : Heap) (CX : CXT) (k : Nat) (f : Addr) (fd : FuncData) (ps : List Str) (sp : Sp) : Prop where
  len : ∀ vs H Q E, sp vs H Q E → vs.length = ps.length
  run : ∀ (A : Around) (outer : List Env) (s : Shared) (H : Hp) (args : Args) (us : List Value) (vs : List V) (Q : VK) (E : XK), Room k A → Env0 P w K mg base A outer s H → BindsTo s fd args (ps.zip us) → Vals vs us → sp vs H Q E →
    codeAny (model P w) A (.call (.ref f) args) (CR CX outer P w H s Q E) s
section
variable {X : Cx} {pins : List (Addr × Obj)} {σ : St} {H : Hp} {s s' : Shared}
/-- from a body: what a callee wants -/
theorem Inv.env0 (I : Inv X pins σ H s) : Env0 X.prog X.w X.K X.mg X.base X.A X.stack s H :=
  ⟨I.ok.frames, I.ok.mod, I.bs, Nat.le_trans I.ok.bsz I.sz, I.stack, I.stkFree, I.hok, I.bare⟩
/-- behind a call -/
theorem Inv.after {Q : VK} {u : Value} (I : Inv X pins σ H s) (h : CE X.stack X.prog X.w H s Q u s') : EP X pins σ Q u s' := by
  obtain ⟨v, H', os, bare, un, hok, r, q⟩ := h
  obtain ⟨hh, g, d, t, os'⟩ := s'
  obtain rfl : os' = s.os := os
  exact ⟨v, H', I.call (h' := hh) (g' := g) (d' := d) (t' := t) (ch := []) un hok bare (fun b z => absurd z (by simp)), r, q⟩
end

/-! ### calls -/
/-- f(..): the written arguments, then the defaults dvs; E: what is wanted of an exception -/
def tCall (sp : Sp) (dvs : List V) (E : XK) (t : TA) : TE := fun σ H Q => t σ H fun vs H1 => sp (vs ++ dvs) H1 Q E
/-- how the parameters are bound: us the positional arguments, kw the keywords' values by name, ds the defaults that fill up -/
def Binds (K : PySem.W.Frag) (fd : FuncData) (ps : List Str) (ds : List Value) : Prop :=
  ∀ (s : Shared) (us : List Value), K.In s.heap → (us ++ ds).length = ps.length → BindsTo s fd ⟨us, []⟩ (ps.zip (us ++ ds))
/-- every parameter is given -/
theorem Binds.all {K : PySem.W.Frag} {fd : FuncData} {ps : List Str} (h : ∀ us : List Value, us.length = ps.length → bindArgs fd ⟨us, []⟩ = pure (ps.zip us)) : Binds K fd ps [] := fun s us _ hl => by
  rw [List.append_nil] at hl ⊢
  exact .of_eq (h us hl)

/-- an exception of a callee reaches what this body wants of exceptions -/
def Passes (CX : CXT) (X : Cx) (E : XK) : Prop := ∀ (pins : List (Addr × Obj)) (σ : St) (H : Hp) (s : Shared) (e : Value) (s' : Shared), Inv X pins σ H s → CX X.stack H s E e s' → X.xe e s'

section
variable {X : Cx} {CX : CXT} {k : Nat} {f C : Addr} {fd : FuncData} {ps : List Str} {sp : Sp} {dvs : List V} {ds : List Value} {E : XK} {x m : Str} {p pos apos : Pos} {e o : Expr} {es : List Expr} {ta : TE} {t : TA}

/-- the callee runs -/
theorem run_fn {pins : List (Addr × Obj)} {σ : St} {H : Hp} {s : Shared} {Q : VK} {us : List Value} {vs : List V} (F : FnOk X.prog X.w X.K X.mg X.base CX k f fd ps sp) (hr : Room k X.A) (hb : Binds X.K fd ps ds) (hd : Vals dvs ds) (hx : Passes CX X E)
    (I : Inv X pins σ H s) (r : Vals vs us) (h : sp (vs ++ dvs) H Q E) : wpAny (model X.prog X.w) X.A (call (.ref f) us) (EP X pins σ Q) X.xe s := by
  have r2 : Vals (vs ++ dvs) (us ++ ds) := r.append hd
  have hl : (us ++ ds).length = ps.length := by rw [← r2.length]; exact F.len _ _ _ _ h
  refine wpAny_call (codeAny_mono (F.run X.A X.stack s H ⟨us, []⟩ (us ++ ds) (vs ++ dvs) Q E hr I.env0 (hb s us I.kIn hl) r2 h) fun r s' hq => ?_)
  cases r with
  | error e => exact hx pins σ H s e s' I hq
  | ok fl =>
    cases fl with
    | ret u => exact I.after hq
    | next => exact False.elim hq
    | brk => exact False.elim hq
    | cont => exact False.elim hq

theorem pe_call (F : FnOk X.prog X.w X.K X.mg X.base CX k f fd ps sp) (hr : Room k X.A) (hg : Gl X x) (hm : X.mg x = some (.ref f)) (hk : PySem.W.keepIn X.K (.ref f) = true) (hb : Binds X.K fd ps ds) (hd : Vals dvs ds) (hx : Passes CX X E)
    (ha : PA X (e :: es) t) (hdb : (x == ("__debug__" : Str)) = false := by decide) (he : starEach (e :: es) X.env = (false, eval e X.env) :: starEach es X.env := by rfl) (hpl : (backTo pos (starEach es X.env)).any (·.1) = false := by rfl) :
    PE X (.Call (.Name x p) (e :: es) [] pos) (tCall sp dvs E t) := by
  intro pins s σ H Q I h
  refine wpAny_Call_Name_kw (ld_glob I hg hm ?_ hdb)
  refine PySem.W.callWith_K (h₀ := X.base) I.ok.mod.kin hk (thn (ha pos pins s σ H _ I h) fun us s1 ⟨vs, H1, I1, r, q⟩ => ⟨I1.kIn, ?_⟩) he hpl
  exact run_fn F hr hb hd hx I1 r q
end

/-! ### keywords -/
section
variable {X : Cx} {CX : CXT} {k : Nat} {f C : Addr} {fd : FuncData} {ps ks : List Str} {sp : Sp} {E : XK} {x m : Str} {p pos apos kpos : Pos} {e o : Expr} {es : List Expr} {kws : List Keyword} {te ta : TE} {t tk : TA} {nm : Option Str}
variable {g : List Value → List Value → List Value} {gV : List V → List V → List V}
end

/-! ### a def's body keeps its promise -/
/-- names: the parameters first -/
structure FnScope (N P : List Str) (sc : Scope) : Prop where
  kind : sc.kind = .function
  co : sc.isCoroutine = false
  gen : sc.isGenerator = false
  nd : N.Nodup
  pre : N.take P.length = P
  par : ∀ x ∈ P, sc.names.lookup x = some .local ∨ sc.names.lookup x = some .cell
  nofree : ∀ y ∈ sc.names, y.2 ≠ .free

theorem bindL_out {kindOf : Str → Option NameKind} {x : Str} : ∀ {binds : List (Str × Value)} {m : Str → Option Value}, (∀ v, (x, v) ∉ binds) → bindL kindOf binds m x = m x
  | [], _, _ => rfl
  | (n, v) :: r, m, h => by
    unfold bindL
    rw [bindL_out fun w hw => h w (List.mem_cons_of_mem _ hw)]
    split
    · have : x ≠ n := by rintro rfl; exact h v List.mem_cons_self
      simp [this]
    · rfl
theorem bindC_out {kindOf : Str → Option NameKind} {x : Str} : ∀ {binds : List (Str × Value)} {m : Str → Option Value}, (∀ v, (x, v) ∉ binds) → bindC kindOf binds m x = m x
  | [], _, _ => rfl
  | (n, v) :: r, m, h => by
    unfold bindC
    rw [bindC_out fun w hw => h w (List.mem_cons_of_mem _ hw)]
    split
    · rfl
    · have : x ≠ n := by rintro rfl; exact h v List.mem_cons_self
      simp [this]
theorem bindL_get {kindOf : Str → Option NameKind} {x : Str} {v : Value} : ∀ {P : List Str} {vs : List Value} {i : Nat} {m : Str → Option Value}, P.Nodup → P[i]? = some x → vs[i]? = some v → kindOf x = some .local →
    bindL kindOf (P.zip vs) m x = some v
  | [], _, _, _, _, h, _, _ => by simp at h
  | _ :: _, [], _, _, _, _, h, _ => by simp at h
  | p :: P, w :: vs, 0, m, nd, h1, h2, hk => by
    simp at h1 h2; subst h1; subst h2
    show bindL kindOf ((p, w) :: P.zip vs) m p = _
    unfold bindL
    rw [bindL_out fun v hv => (List.nodup_cons.mp nd).1 (List.of_mem_zip hv).1, if_pos hk]
    simp
  | p :: P, w :: vs, i + 1, m, nd, h1, h2, hk => by
    show bindL kindOf ((p, w) :: P.zip vs) m x = _
    unfold bindL
    exact bindL_get (i := i) (List.nodup_cons.mp nd).2 (by simpa using h1) (by simpa using h2) hk
theorem bindC_get {kindOf : Str → Option NameKind} {x : Str} {v : Value} : ∀ {P : List Str} {vs : List Value} {i : Nat} {m : Str → Option Value}, P.Nodup → P[i]? = some x → vs[i]? = some v → kindOf x ≠ some .local →
    bindC kindOf (P.zip vs) m x = some v
  | [], _, _, _, _, h, _, _ => by simp at h
  | _ :: _, [], _, _, _, _, h, _ => by simp at h
  | p :: P, w :: vs, 0, m, nd, h1, h2, hk => by
    simp at h1 h2; subst h1; subst h2
    show bindC kindOf ((p, w) :: P.zip vs) m p = _
    unfold bindC
    rw [bindC_out fun v hv => (List.nodup_cons.mp nd).1 (List.of_mem_zip hv).1, if_neg hk]
    simp
  | p :: P, w :: vs, i + 1, m, nd, h1, h2, hk => by
    show bindC kindOf ((p, w) :: P.zip vs) m x = _
    unfold bindC
    exact bindC_get (i := i) (List.nodup_cons.mp nd).2 (by simpa using h1) (by simpa using h2) hk

/-- the names' values at the entry -/
def start (N : List Str) (vs : List V) : St := vs.map some ++ List.replicate (N.length - vs.length) none

/-- the context of a def's body, at its entry; an exception leaves the frame, then lies as CX says -/
def cxOf (CX : CXT) (P : Program) (w : World) (K : PySem.W.Frag) (mg : Str → Option Value) (base : Heap) (N : List Str) (qual : Str) (scope : Scope) (f : Addr) (cd : Value) (A : Around) (outer : List Env) (s : Shared) (H : Hp) (E : XK) : Cx where
  prog := P
  w := w
  K := K
  mg := mg
  base := base
  A := A.deeper (envOfC qual scope s.heap.objs.size f cd)
  N := N
  s₀ := s
  H₀ := H
  env := envOfC qual scope s.heap.objs.size f cd
  outer := outer
  stack := envOfC qual scope s.heap.objs.size f cd :: outer
  ex := []
  calm := true
  fn := fun _ => true
  pn := []
  xe := fun e s' => wpAny (model P w) (A.deeper (envOfC qual scope s.heap.objs.size f cd)) (leaving (envOfC qual scope s.heap.objs.size f cd) e) (fun _ s'' => CX outer H s E e s'') (fun e' s'' => CX outer H s E e' s'') s'

theorem cell_has {sc : Scope} {n : Nat} {x : Str} (h : sc.names.lookup x = some .cell) : ∃ c, (cellsFrom n sc.names []).lookup x = some c := by
  have q := PySem.W.cellsFrom_some sc.names n [] (.inl h)
  exact Option.isSome_iff_exists.mp q

theorem inv_start {CX : CXT} {P : Program} {w : World} {K : PySem.W.Frag} {mg : Str → Option Value} {base : Heap} {N ps : List Str} {qual : Str} {scope : Scope} {f : Addr} {cd : Value} {A : Around} {outer : List Env} {s s1 : Shared} {H : Hp} {E : XK} {us : List Value} {vs : List V}
    (S : FnScope N ps scope) (hd : A.handled = none) (e0 : Env0 P w K mg base A outer s H) (hl : vs.length = ps.length) (r : Vals vs us)
    (x : InCallC s s.heap.objs.size (bindL (envOfC qual scope s.heap.objs.size f cd).kindOf (ps.zip us) fun _ => none) (cellsFrom (s.heap.objs.size + 1) scope.names []) (bindC (envOfC qual scope s.heap.objs.size f cd).kindOf (ps.zip us) fun _ => none) s1) :
    Inv (cxOf CX P w K mg base N qual scope f cd A outer s H E) [] (start N vs) H s1 := by
  have hpl : ps.length ≤ N.length := by have := congrArg List.length S.pre; rw [List.length_take] at this; omega
  obtain ⟨h1, tk, rfl, hk⟩ := x.done
  have noA : ∀ b : Addr, b ∉ (cxOf CX P w K mg base N qual scope f cd A outer s H E).ex := fun b z => absurd (show b ∈ ([] : List Addr) from z) (by simp)
  refine ⟨⟨e0.mod, S.kind, rfl, rfl, Nat.le_refl _, fun y z c h1 h2 => ?_, fun y hy => ?_, fun y c _ h => ?_, fun _ => hd, Around.frames_deeper e0.frames, .inr ⟨rfl, rfl⟩, fun b z => absurd z (noA b), e0.bs, e0.bsz, fun b _ _ => noA b, fun b z => absurd z (noA b), e0.funs, e0.frf⟩,
    rfl, e0.bare, Un.kept hk, ⟨_, x.toInCall.ns, fun i y v h1 h2 h3 => ?_⟩, fun y c h => ⟨_, x.cell y c h⟩, e0.hok.fresh (Nat.le_refl _), fun y c h => ?_, fun p hp => absurd (show p ∈ ([] : List (Addr × Obj)) from hp) (by simp), e0.hok.kept hk, ?_⟩
  · exact name_of_addr x.apart (PySem.mem_of_lookup h1) (PySem.mem_of_lookup h2)
  · have hy : scope.names.lookup y = some .cell ∨ scope.names.lookup y = some .free := hy
    rcases hy with hy | hy
    · exact cell_has hy
    · exact absurd rfl (S.nofree _ (PySem.mem_of_lookup hy))
  · exact Nat.le_of_lt (x.above y c (PySem.mem_of_lookup h))
  · have hi : i < vs.length := by
      unfold start at h2
      by_cases hi : i < vs.length
      · exact hi
      · rw [List.getElem?_append_right (by simpa using hi)] at h2
        rw [List.getElem?_replicate] at h2
        split at h2 <;> cases h2
    have ha : vs[i]? = some v := by
      unfold start at h2
      rw [List.getElem?_append_left (by simpa using hi), List.getElem?_map] at h2
      cases e : vs[i]? with
      | none => rw [e] at h2; cases h2
      | some a => rw [e] at h2; cases h2; rfl
    obtain ⟨u, hu, rv⟩ := r.get ha
    have hp : ps[i]? = some y := by
      rw [← S.pre, List.getElem?_take_of_lt (by omega)]; exact h1
    have ndP : ps.Nodup := by rw [← S.pre]; exact S.nd.sublist (List.take_sublist _ _)
    refine ⟨u, rv, ?_⟩
    rcases S.par y (List.mem_of_getElem? hp) with k | k
    · exact .inl ⟨k, bindL_get ndP hp hu k⟩
    · obtain ⟨c, e⟩ := cell_has (n := s.heap.objs.size + 1) k
      refine .inr ⟨.inl k, c, e, ?_⟩
      have q := x.cell y c e
      rw [bindC_get ndP hp hu (by show scope.names.lookup y ≠ _; rw [k]; decide)] at q
      exact q
  · exact e0.hok.fresh (Nat.le_of_lt (x.above y c (PySem.mem_of_lookup h)))
  · unfold start
    show _ = N.length
    rw [List.length_append, List.length_map, List.length_replicate]
    omega

/-- THE RULE: a def (or a method) of the text, by its body. The body's reading t is chosen for each entry; it is run at the parameters' values -/
theorem fn_of {CX : CXT} {P : Program} {w : World} {K : PySem.W.Frag} {mg : Str → Option Value} {base : Heap} {k : Nat} {f : Addr} {name qual : Str} {params : Arguments} {body : List Stmt} {scope : Scope} {dV kV doc pm cdv ct oc : Value} {an od : Option Addr}
    {osl : Array (Option Value)} {N ps : List Str} {sp : Sp} (lk : K.lookup f = some ⟨oc, od, .func (PySem.W.fnOf name qual params body scope dV kV doc pm an cdv ct), osl⟩) (hcd : PySem.W.codeIn K cdv qual = true) (S : FnScope N ps scope)
    (len : ∀ vs H Q E, sp vs H Q E → vs.length = ps.length)
    (hbody : ∀ (A : Around) (outer : List Env) (s : Shared) (H : Hp) (vs : List V) (Q : VK) (E : XK), Room k (A.deeper (envOfC qual scope s.heap.objs.size f cdv)) → sp vs H Q E →
      ∃ t, PSs (cxOf CX P w K mg base N qual scope f cdv A outer s H E) body t ∧ t { nx := fun _ H' => Q .non H', rt := Q } (start N vs) H) :
    FnOk P w K mg base CX (k + 1) f (PySem.W.fnOf name qual params body scope dV kV doc pm an cdv ct) ps sp := by
  refine ⟨len, fun A outer s H args us vs Q E hr e0 hb r hsp => ?_⟩
  have hl := len _ _ _ _ hsp
  have KX : K.In s.heap := e0.mod.kin.keeps fun b o e => (e0.bs b o e).1
  have lim : s.heap.NoLimit := e0.mod.nolimit.keeps fun b o e => (e0.bs b o e).1
  have hkind : ∀ y ∈ ps.zip us, scope.names.lookup y.1 = some .local ∨ (scope.names.lookup y.1 = some .cell ∧ ((cellsFrom (s.heap.objs.size + 1) scope.names []).lookup y.1).isSome = true) := fun ⟨n, v⟩ hy => by
    rcases S.par n (List.of_mem_zip hy).1 with q | q
    · exact .inl q
    · exact .inr ⟨q, PySem.W.cellsFrom_some _ _ _ (.inl q)⟩
  refine codeAny_call_function hr.depth (KX _ _ lk) rfl S.co S.gen rfl (PySem.W.codeRec_of KX hcd) (hb _ _ _ _ ?_)
  refine wpAny_newFunctionEnv_cells S.kind hkind fun env he s1 x => ?_
  subst he
  refine ⟨lim.keeps x.toInCall.keep, codeAny_func ?_⟩
  obtain ⟨t, ht, hq⟩ := hbody A outer s H vs Q E (hr.deeper _) hsp
  have I : Inv (cxOf CX P w K mg base N qual scope f cdv A outer s H E) [] (start N vs) H s1 := inv_start S hr.hd e0 hl r x
  refine wpAny_mono (ht [] s1 (start N vs) H _ I hq) (fun fl s' hs => ?_) fun e s' hs => hs
  have fin : ∀ {σ' : St} {H' : Hp} {v : V} {u : Value}, Inv (cxOf CX P w K mg base N qual scope f cdv A outer s H E) [] σ' H' s' → RelV v u → Q v H' → CE outer P w H s Q u s' :=
    fun {σ' H' v u} J rv q => ⟨v, H', J.os, J.bare, J.base, J.hok, rv, q⟩
  cases fl with
  | ret u =>
    obtain ⟨v, σ', H', J, rv, q⟩ := hs
    exact fin J rv q
  | next =>
    obtain ⟨σ', H', J, q⟩ := hs
    exact fin (v := V.non) (u := Value.none) J rfl q
  | brk =>
    obtain ⟨_, _, _, q⟩ := hs
    exact False.elim q
  | cont =>
    obtain ⟨_, _, _, q⟩ := hs
    exact False.elim q
end L2

namespace L2
open PySem PySem.Spec PyProof.Rows
section
variable {X : Cx} {x : Str} {p pos : Pos} {e : Expr} {es : List Expr} {t : TA} {id T : String} {r : List V → Hp → VK → Prop}

def tCB (r : List V → Hp → VK → Prop) (t : TA) : TE := fun σ H Q => t σ H fun vs H1 => r vs H1 Q
/-- f(e, ..), f a built-in function -/
theorem pe_callB (hc : CallR X (.builtin id) r) (hg : Gl X x) (hm : X.mg x = none) (hv : bootBuiltins x = some (.builtin id)) (ha : PA X (e :: es) t) (hn : x ≠ "__name__" := by decide) (hdb : (x == ("__debug__" : Str)) = false := by decide)
    (he : starEach (e :: es) X.env = (false, eval e X.env) :: starEach es X.env := by rfl) (hpl : (backTo pos (starEach es X.env)).any (·.1) = false := by rfl) : PE X (.Call (.Name x p) (e :: es) [] pos) (tCB r t) := by
  intro pins s σ H Q I h
  refine wpAny_Call_Name_kw (ld_blt I hg hm hv ?_ hn hdb)
  exact PyProof.Rows.callWith_builtin1 (thn (ha pos pins s σ H _ I h) fun us s1 ⟨vs, H1, I1, r1, q1⟩ => hc pins s1 σ H1 vs us Q I1 r1 q1) he hpl
/-- T(e, ..), T a built-in type -/
theorem pe_callTy (hc : CallR X (.type T) r) (hg : Gl X x) (hm : X.mg x = none) (hv : bootBuiltins x = some (.type T)) (ha : PA X (e :: es) t) (hn : x ≠ "__name__" := by decide) (hdb : (x == ("__debug__" : Str)) = false := by decide)
    (he : starEach (e :: es) X.env = (false, eval e X.env) :: starEach es X.env := by rfl) (hpl : (backTo pos (starEach es X.env)).any (·.1) = false := by rfl) : PE X (.Call (.Name x p) (e :: es) [] pos) (tCB r t) := by
  intro pins s σ H Q I h
  refine wpAny_Call_Name_kw (ld_blt I hg hm hv ?_ hn hdb)
  exact PyProof.Rows.callWith_type1 (thn (ha pos pins s σ H _ I h) fun us s1 ⟨vs, H1, I1, r1, q1⟩ => hc pins s1 σ H1 vs us Q I1 r1 q1) he hpl
end
end L2

namespace HT
open PySem PyProof.Rows

section
open PySem.SeqAt
open PySem.AutoSeq1 (wpAny_loadPart')
open PySem.MeetsSeq PySem.MeetsSeq2 PySem.MeetsSeq3

end

section
variable {prog : Program} {w : World} {A : Around} {E : Value → Shared → Prop} {s : Shared}

/-! ### t[a:b], not the whole -/
/-- a slice's bound as a place among n (d where it is left out) -/
def sIx (n d : Nat) : Option Int → Nat
  | none => d
  | some v => if v < 0 then (v + (n : Int)).toNat else min v.toNat n
theorem sIx_none (n d : Nat) : sIx n d none = d := rfl
theorem sIx_nat (n d k : Nat) : sIx n d (some (k : Int)) = min k n := by
  show (if (k : Int) < 0 then ((k : Int) + (n : Int)).toNat else min (k : Int).toNat n) = min k n
  rw [if_neg (by omega), Int.toNat_natCast]
end
end HT

namespace L2
open PySem PySem.Spec PyProof.Rows

/-! ### the parts of a slice -/
abbrev TO := St → Hp → (Option Int → Hp → Prop) → Prop
/-- a slice's part (left out, or an int) -/
def PO (X : Cx) (e : Option Expr) (t : TO) : Prop :=
  ∀ (pins : List (Addr × Obj)) (s : Shared) (σ : St) (H : Hp) (Q : Option Int → Hp → Prop), Inv X pins σ H s → t σ H Q →
    wpAny (model X.prog X.w) X.A (evalPart e X.env) (fun u s' => ∃ o H', Inv X pins σ H' s' ∧ IsPart u o ∧ Q o H') X.xe s
def tNoPart : TO := fun _ H Q => Q none H
def tPart (t : TE) : TO := fun σ H Q => t σ H fun x H1 => ∃ i, x = .int i ∧ Q (some i) H1

section
variable {X : Cx} {e : Expr} {te : TE} {lo hi : Option Expr} {tl th : TO} {pos p2 : Pos}

theorem po_none : PO X none tNoPart := by
  intro pins s σ H Q I h
  rw [evalPart_none]
  exact wpAny_pure ⟨none, H, I, .none, h⟩
theorem po_some (h : PE X e te) : PO X (some e) (tPart te) := by
  intro pins s σ H Q I hw
  rw [evalPart_some]
  refine thn (h pins s σ H _ I hw) fun u s1 ⟨x, H1, I1, r1, q1⟩ => ?_
  obtain ⟨i, rfl, q⟩ := q1
  obtain ⟨t, rfl⟩ := r1
  exact ⟨some i, H1, I1, .int i t, q⟩

/-- what a slice of a value is, by values: the slice object stands at sl -/
def SlR (X : Cx) (r : V → Option Int → Option Int → Hp → VK → Prop) : Prop :=
  ∀ (pins : List (Addr × Obj)) (s : Shared) (σ : St) (H : Hp) (x : V) (v vl vu : Value) (lo hi : Option Int) (sl : Addr) (Q : VK), Inv X pins σ H s → RelV x v → s.heap.IsSliceOf sl vl vu .none → IsPart vl lo → IsPart vu hi → r x lo hi H Q →
    ∃ T id, typeLookup (.type T) "__getitem__" = pure (some (.builtin id)) ∧ s.TypeIs v T ∧ wpAny (model X.prog X.w) X.A (getItem v (.ref sl)) (EP X pins σ Q) X.xe s
def tSl (r : V → Option Int → Option Int → Hp → VK → Prop) (te : TE) (tl th : TO) : TE := fun σ H Q => te σ H fun x H1 => tl σ H1 fun l H2 => th σ H2 fun u H3 => r x l u H3 Q
/-- a[lo:hi], any a -/
theorem pe_slice {r : V → Option Int → Option Int → Hp → VK → Prop} (hr : SlR X r) (he : PE X e te) (hl : PO X lo tl) (hu : PO X hi th) : PE X (.Subscript e (.Slice lo hi none p2) pos) (tSl r te tl th) := by
  intro pins s σ H Q I h
  refine Subscript_ (thn (he pins s σ H _ I h) fun v s1 ⟨x, H1, I1, r1, q1⟩ => ?_)
  refine wpAny_Slice (thn (hl pins s1 σ H1 _ I1 q1) fun vl s2 ⟨l, H2, I2, pl, q2⟩ => thn (hu pins s2 σ H2 _ I2 q2) fun vu s3 ⟨u, H3, I3, pu, q3⟩ => ?_)
  rw [evalPart_none]
  refine wpAny_pure ?_
  have I4 : Inv X pins σ H3 { s3 with heap := s3.heap.push { cls := .type "slice", data := .fields #[vl, vu, .none] } } := I3.kept (t' := s3.toks) fun b ob q => Heap.get?_push_of_some _ q
  obtain ⟨T, id, hT, ht, hg⟩ := hr pins { s3 with heap := s3.heap.push { cls := .type "slice", data := .fields #[vl, vu, .none] } } σ H3 x v vl vu l u s3.heap.objs.size Q I4 r1 (Heap.IsSliceOf.new ..) pl pu q3
  show wpAny (model X.prog X.w) X.A (subscriptTail e (.Slice lo hi none p2) v (.ref s3.heap.objs.size)) (EP X pins σ Q) X.xe { s3 with heap := s3.heap.push { cls := .type "slice", data := .fields #[vl, vu, .none] } }
  exact tail_any (ops := [.ref s3.heap.objs.size, v]) ht hT hg (by with_unfolding_all rfl)

/-- the items of xs[lo:hi] -/
def cutV (xs : List V) (lo hi : Option Int) : List V := (xs.drop (HT.sIx xs.length 0 lo)).take (HT.sIx xs.length xs.length hi - HT.sIx xs.length 0 lo)
theorem cutV_length (xs : List V) (lo hi : Option Int) : (cutV xs lo hi).length ≤ xs.length := by
  unfold cutV
  rw [List.length_take, List.length_drop]
  omega
/-! ### t < u, t + u -/
end
end L2

namespace L2
open PySem PySem.Spec PyProof.Rows

/-! ### places -/
/-- the place that an index of any sign means -/
def ixN (n : Nat) (i : Int) : Option Nat := if 0 ≤ i then (if i < n then some i.toNat else none) else if -(n : Int) ≤ i then some (i + n).toNat else none
def atI {α : Type} (xs : List α) (i : Int) : Option α := (ixN xs.length i).bind fun j => xs[j]?
theorem ixN_seq {n : Nat} {i : Int} {j : Nat} (h : ixN n i = some j) : seqIndex? i n = some j ∧ j < n ∧ -(n : Int) ≤ i ∧ i < n := by
  unfold ixN at h
  by_cases h0 : 0 ≤ i
  · rw [if_pos h0] at h
    by_cases h1 : i < n
    · rw [if_pos h1] at h
      have e : i.toNat = j := Option.some.inj h
      exact ⟨by rw [seqIndex_of h0 h1, e], by omega, by omega, h1⟩
    · rw [if_neg h1] at h; cases h
  · rw [if_neg h0] at h
    by_cases h1 : -(n : Int) ≤ i
    · rw [if_pos h1] at h
      have e : (i + n).toNat = j := Option.some.inj h
      exact ⟨by rw [seqIndex_neg (by omega) h1, e], by omega, h1, by omega⟩
    · rw [if_neg h1] at h; cases h
theorem atI_get {α : Type} {xs : List α} {i : Int} {v : α} (h : atI xs i = some v) : ∃ j, seqIndex? i xs.length = some j ∧ xs[j]? = some v ∧ j < xs.length ∧ -(xs.length : Int) ≤ i ∧ i < xs.length := by
  unfold atI at h
  cases e : ixN xs.length i with
  | none => rw [e] at h; cases h
  | some j =>
    rw [e] at h
    obtain ⟨h1, h2, h3, h4⟩ := ixN_seq e
    exact ⟨j, h1, h, h2, h3, h4⟩
theorem atI_nat {α : Type} {xs : List α} {j : Nat} {v : α} (h : xs[j]? = some v) : atI xs (j : Int) = some v := by
  have hj : j < xs.length := (List.getElem?_eq_some_iff.mp h).1
  have e : ixN xs.length (j : Int) = some j := by
    unfold ixN
    rw [if_pos (by omega), if_pos (by omega)]; simp
  unfold atI; rw [e]; exact h
/-! ### what may be subscripted -/
/-- what stands as an index of a plain subscript -/
def PlainIx (b : Expr) : Prop := ∀ o i, subscripted b false o i = operate [o, i] (getItem o i)
/-- a subscript by values -/
def IxR (X : Cx) (r : R2) : Prop :=
  ∀ (value slice : Expr) (pins : List (Addr × Obj)) (s : Shared) (σ : St) (H : Hp) (x y : V) (v u : Value) (Q : VK), Inv X pins σ H s → RelV x v → RelV y u → r x y H Q →
    subscripted slice false v u = operate [v, u] (getItem v u) → wpAny (model X.prog X.w) X.A (subscriptTail value slice v u) (EP X pins σ Q) X.xe s
/-- a call of a builtin's method by values: the receiver, the arguments -/
def MtR (X : Cx) (id : String) (r : V → List V → Hp → VK → Prop) : Prop :=
  ∀ (pins : List (Addr × Obj)) (s : Shared) (σ : St) (H : Hp) (x : V) (xs : List V) (v : Value) (us : List Value) (Q : VK), Inv X pins σ H s → RelV x v → Vals xs us → r x xs H Q →
    wpAny (model X.prog X.w) X.A (call (.builtin id) (v :: us)) (EP X pins σ Q) X.xe s
section
variable {X : Cx} {a b : Expr} {ta tb : TE} {pos : Pos}
/-- a[b] -/
theorem pe_ix {r : R2} (hr : IxR X r) (ha : PE X a ta) (hb : PE X b tb) (hs : PlainIx b) : PE X (.Subscript a b pos) (tOp r ta tb) := by
  intro pins s σ H Q I h
  exact Subscript_ (binT ha hb I h fun v u s2 x y H2 I2 rx ry q => hr a b pins s2 σ H2 x y v u Q I2 rx ry q (hs _ _))

def rIxL (K : PySem.W.Frag) : R2 := fun x y H Q => ∃ p xs i v, x = .ref p ∧ y = .int i ∧ SqL K H p xs ∧ atI xs i = some v ∧ Q v H
def rIxT (K : PySem.W.Frag) : R2 := fun x y H Q => ∃ p xs i v, x = .ref p ∧ y = .int i ∧ SqT K H p xs ∧ atI xs i = some v ∧ Q v H
theorem ix_list : IxR X (rIxL X.K) := by
  intro value slice pins s σ H x y v u Q I rx ry h hs
  obtain ⟨p, xs, i, z, rfl, rfl, hq, he, q⟩ := h
  cases rx
  obtain ⟨t, rfl⟩ := ry
  obtain ⟨its, r, pl, hz⟩ := I.list hq
  obtain ⟨j, h1, h2, h3, h4, h5⟩ := atI_get he
  obtain ⟨w, ew, rw'⟩ := r.get h2
  have hl := r.length
  have hn := line63
  have fin : EP X pins σ Q w s := ⟨z, H, I, rw', q⟩
  by_cases h0 : 0 ≤ i
  · have hj : i.toNat = j := by
      rw [seqIndex_of h0 h5] at h1
      exact Option.some.inj h1
    exact item_listR pl.isList h0 (by omega) (by rw [hj]; simpa using ew) fin hs
  · have hj : (i + (its.toArray.size : Int)).toNat = j := by
      rw [seqIndex_neg (by omega) h4] at h1
      rw [List.size_toArray, ← hl]
      exact Option.some.inj h1
    exact subscriptTail_builtinR (x := w) pl.isList.typeIs slot_list_getitem.lookup
      (wpAny_getItem_list_neg (Q := fun r s' => r = w ∧ EP X pins σ Q r s') pl.isList (by omega) (by rw [List.size_toArray] <;> omega) (by omega) (by rw [hj]; simpa using ew) ⟨rfl, fin⟩) hs
theorem ix_tup : IxR X (rIxT X.K) := by
  intro value slice pins s σ H x y v u Q I rx ry h hs
  obtain ⟨p, xs, i, z, rfl, rfl, hq, he, q⟩ := h
  cases rx
  obtain ⟨t, rfl⟩ := ry
  obtain ⟨its, r, pl, hz⟩ := I.tuple hq
  obtain ⟨j, h1, h2, h3, h4, h5⟩ := atI_get he
  obtain ⟨w, ew, rw'⟩ := r.get h2
  have hl := r.length
  have hn := line63
  have fin : EP X pins σ Q w s := ⟨z, H, I, rw', q⟩
  exact subscriptTail_builtinR (x := w) pl.typeIs slot_tuple_getitem.lookup
    (getItem_tuple (j := j) (Q := fun r s' => r = w ∧ EP X pins σ Q r s') pl (by omega) (by omega) (by rw [List.size_toArray, ← hl]; exact h1) (by simpa using ew) ⟨rfl, fin⟩) hs
/-! ### xs[i] = v, any sign -/
/-- the list's object behind a store -/
theorem mapSeq_set (its : List Value) (n j : Nat) (u : Value) : Obj.mapSeq (·.setIfInBounds j u) { cls := .type "list", data := .seq its.toArray n } = { cls := .type "list", data := .seq (its.set j u).toArray n } := by
  simp [Obj.mapSeq]
theorem Inv.lst {pins : List (Addr × Obj)} {σ : St} {H : Hp} {s : Shared} {p : Addr} {xs : List V} (I : Inv X pins σ H s) (h : H p = some (.lst xs)) :
    ∃ (its : List Value) (n : Nat), Vals xs its ∧ s.heap.get? p = some { cls := .type "list", data := .seq its.toArray n } ∧ xs.length ≤ sizeLine := by
  obtain ⟨z, its, n, r, e⟩ := I.hok p _ h
  exact ⟨its, n, r, e, z⟩
/-- the list at p is written by an update of its object -/
theorem Inv.lstUpd {pins : List (Addr × Obj)} {σ : St} {H : Hp} {s : Shared} {p : Addr} {xs ys : List V} {its its' : List Value} {n n' : Nat} {f : Obj → Obj} (I : Inv X pins σ H s) (h : H p = some (.lst xs))
    (ho : s.heap.get? p = some { cls := .type "list", data := .seq its.toArray n }) (hf : f { cls := .type "list", data := .seq its.toArray n } = { cls := .type "list", data := .seq its'.toArray n' }) (r : Vals ys its') (hz : ys.length ≤ sizeLine) (t : Nat) :
    Inv X pins σ (upd H p (.lst ys)) { s with heap := s.heap.update p f, toks := t } := by
  have e : (s.heap.update p f).get? p = some { cls := .type "list", data := .seq its'.toArray n' } := by
    rw [Heap.get?_update_self f ho (by rw [hf] <;> rfl), hf]
  refine I.write (x := p) (e := p) (by rw [h]; trivial) (.inl rfl) (fun b u hb q => (Heap.get?_update_other _ _ (Ne.symm hb)).trans q) ⟨_, e⟩ ?_
  exact ⟨hz, its', n', r, e⟩
def rSetL : V → V → V → Hp → (Hp → Prop) → Prop := fun o i v H Q => ∃ p xs k j, o = .ref p ∧ i = .int k ∧ H p = some (.lst xs) ∧ ixN xs.length k = some j ∧ Q (upd H p (.lst (xs.set j v)))
theorem set_list : PSet X rSetL := by
  intro pins s σ H o i v ov iv u Q I ro ri rv h
  obtain ⟨p, xs, k, j, rfl, rfl, hp, hj, q⟩ := h
  cases ro
  obtain ⟨t, rfl⟩ := ri
  obtain ⟨its, n, r, ho, hz⟩ := I.lst hp
  obtain ⟨h1, h2, h3, h4⟩ := ixN_seq hj
  have hl := r.length
  have hn := line63
  have I' : Inv X pins σ (upd H p (.lst (xs.set j v))) { s with heap := s.heap.update p (Obj.mapSeq (·.setIfInBounds j u)) } :=
    I.lstUpd hp ho (mapSeq_set its n j u) (r.set rv j) (by rw [List.length_set]; exact hz) s.toks
  by_cases h0 : 0 ≤ k
  · have hk : k.toNat = j := by
      rw [seqIndex_of h0 h4] at h1
      exact Option.some.inj h1
    exact PySem.W.ki_setAt ho h0 (by omega) (by rw [List.size_toArray, ← hl]; exact h4) (by rw [hk]; exact ⟨_, I', q⟩)
  · have hk : (k + (its.toArray.size : Int)).toNat = j := by
      rw [seqIndex_neg (by omega) h3] at h1
      rw [List.size_toArray, ← hl]
      exact Option.some.inj h1
    exact PySem.W.ki_setBack ho (by omega) (by rw [List.size_toArray, ← hl]; exact h3) (by omega) (by rw [hk]; exact ⟨_, I', q⟩)

/-! ### slices -/
theorem slice_bounds (lo hi : Option Int) (n : Nat) : (sliceBounds lo hi none n).1 = ((HT.sIx n 0 lo : Nat) : Int) ∧ (sliceBounds lo hi none n).2.1 = ((HT.sIx n n hi : Nat) : Int) ∧ (sliceBounds lo hi none n).2.2 = 1 := by
  refine ⟨?_, ?_, rfl⟩
  · cases lo with
    | none => simp [sliceBounds, HT.sIx]
    | some i =>
      simp only [sliceBounds, HT.sIx, Option.getD_none, show (1 : Int) > 0 by decide, if_true]
      by_cases h : i < 0
      · simp only [h, if_true] <;> omega
      · simp only [h, if_false] <;> omega
  · cases hi with
    | none => simp [sliceBounds, HT.sIx]
    | some i =>
      simp only [sliceBounds, HT.sIx, Option.getD_none, show (1 : Int) > 0 by decide, if_true]
      by_cases h : i < 0
      · simp only [h, if_true] <;> omega
      · simp only [h, if_false] <;> omega
theorem slicePick_cut (its : List Value) (lo hi : Option Int) : slicePick its.toArray lo hi none = ((its.drop (HT.sIx its.length 0 lo)).take (HT.sIx its.length its.length hi - HT.sIx its.length 0 lo)).toArray := by
  obtain ⟨h1, h2, h3⟩ := slice_bounds lo hi its.toArray.size
  unfold slicePick
  rw [h1, h2, h3]
  simp only [sliceRange_one, pick_run, List.size_toArray] <;> rfl
/-- xs[lo:hi] of a list: a new list -/
def rSlL (K : PySem.W.Frag) : V → Option Int → Option Int → Hp → VK → Prop := fun x lo hi H Q => ∃ a xs, x = .ref a ∧ SqL K H a xs ∧ ∀ p, H p = none → Q (.ref p) (upd H p (.lst (cutV xs lo hi)))
theorem sl_list : SlR X (rSlL X.K) := by
  intro pins s σ H x v vl vu lo hi sl Q I rx hs pl pu h
  obtain ⟨a, xs, rfl, hx, q⟩ := h
  cases rx
  obtain ⟨its, r, ht, hz⟩ := I.list hx
  have hlen := r.length
  refine ⟨"list", _, slot_list_getitem.lookup, ht.isList.typeIs, ?_⟩
  refine wpAny_getItem_list_slice ht.isList hs pl pu .none (by simp) ?_ (by rw [List.size_toArray] <;> omega)
  rw [slicePick_cut, ← hlen]
  refine ⟨.ref s.heap.objs.size, _, I.laid (t' := s.toks) (o := .lst (cutV xs lo hi)) (fun b ob q => Heap.get?_push_of_some _ q) (Nat.le_refl _) ?_, rfl, q _ (I.hok.fresh (Nat.le_refl _))⟩
  exact ⟨Nat.le_trans (cutV_length xs lo hi) hz, _, 0, (r.drop (HT.sIx xs.length 0 lo)).take (HT.sIx xs.length xs.length hi - HT.sIx xs.length 0 lo), Heap.get?_push_size _ rfl⟩

/-! ### in, not in: flat items -/
def flatV : V → Bool
  | .non => true
  | .bl _ => true
  | .int _ => true
  | .str _ => true
  | _ => false
/-- == of flat values -/
def eqV : V → V → Bool
  | .non, .non => true
  | .bl a, .bl b => a == b
  | .bl a, .int b => (if a then 1 else 0) == b
  | .int a, .bl b => a == (if b then 1 else 0)
  | .int a, .int b => a == b
  | .str a, .str b => a == b
  | _, _ => false
theorem eqAt_V {A : Around} {s : Shared} {y x : V} {u v : Value} (ry : RelV y u) (rx : RelV x v) (fy : flatV y = true) (fx : flatV x = true) : SeqAt.EqAt A s u v (eqV y x) := by
  cases y with
  | non =>
    cases ry
    cases x with
    | non => cases rx; exact SeqAt.EqAt.same _
    | bl b => cases rx; exact SeqAt.EqAt.none_bool b
    | int b => obtain ⟨t, rfl⟩ := rx; exact SeqAt.EqAt.none_int b t
    | str b => obtain ⟨t, rfl⟩ := rx; exact SeqAt.EqAt.none_str b t
    | _ => exact absurd (show false = true from fx) Bool.false_ne_true
  | bl a =>
    cases ry
    cases x with
    | non => cases rx; exact SeqAt.EqAt.bool_none a
    | bl b => cases rx; exact SeqAt.EqAt.bool_bool a b
    | int b => obtain ⟨t, rfl⟩ := rx; exact SeqAt.EqAt.bool_int a b t
    | str b => obtain ⟨t, rfl⟩ := rx; exact SeqAt.EqAt.bool_str a b t
    | _ => exact absurd (show false = true from fx) Bool.false_ne_true
  | int a =>
    obtain ⟨t', rfl⟩ := ry
    cases x with
    | non => cases rx; exact SeqAt.EqAt.int_none a t'
    | bl b => cases rx; exact SeqAt.EqAt.int_bool a t' b
    | int b => obtain ⟨t, rfl⟩ := rx; exact SeqAt.EqAt.int_int a t' b t
    | str b => obtain ⟨t, rfl⟩ := rx; exact SeqAt.EqAt.int_str a t' b t
    | _ => exact absurd (show false = true from fx) Bool.false_ne_true
  | str a =>
    obtain ⟨t', rfl⟩ := ry
    cases x with
    | non => cases rx; exact SeqAt.EqAt.str_none a t'
    | bl b => cases rx; exact SeqAt.EqAt.str_bool a t' b
    | int b => obtain ⟨t, rfl⟩ := rx; exact SeqAt.EqAt.str_int a t' b t
    | str b => obtain ⟨t, rfl⟩ := rx; exact SeqAt.EqAt.str_str a t' b t
    | _ => exact absurd (show false = true from fx) Bool.false_ne_true
  | _ => exact absurd (show false = true from fy) Bool.false_ne_true
/-- the items' answers, read off the values (a value's own answer does not lean on its token) -/
def eqU (x : V) (u : Value) : Bool := match u with
  | .none => eqV .non x
  | .bool b => eqV (.bl b) x
  | .int i _ => eqV (.int i) x
  | .str z _ => eqV (.str z) x
  | _ => false
theorem eqU_of {x y : V} {u : Value} (r : RelV y u) (f : flatV y = true) : eqU x u = eqV y x := by
  cases y with
  | non => cases r; rfl
  | bl b => cases r; rfl
  | int i => obtain ⟨t, rfl⟩ := r; rfl
  | str z => obtain ⟨t, rfl⟩ := r; rfl
  | _ => exact absurd (show false = true from f) Bool.false_ne_true
theorem any_eqU {x : V} : ∀ {xs : List V} {us : List Value}, Vals xs us → xs.all flatV = true → us.any (eqU x) = xs.any fun y => eqV y x
  | _, _, .nil, _ => rfl
  | y :: xs, u :: us, .cons r t, f => by
    rw [List.all_cons, Bool.and_eq_true] at f
    rw [List.any_cons, List.any_cons, eqU_of r f.1, any_eqU t f.2]
theorem mem_eqAt {A : Around} {s : Shared} {x : V} {v : Value} (rx : RelV x v) (fx : flatV x = true) : ∀ {xs : List V} {us : List Value}, Vals xs us → xs.all flatV = true → ∀ u ∈ us, SeqAt.EqAt A s u v (eqU x u)
  | _, _, .nil, _ => fun u hu => by cases hu
  | y :: xs, u :: us, .cons r t, f => fun u' hu => by
    rw [List.all_cons, Bool.and_eq_true] at f
    rcases List.mem_cons.mp hu with rfl | hu
    · rw [eqU_of r f.1]; exact eqAt_V r rx f.1 fx
    · exact mem_eqAt rx fx t f.2 u' hu
def inV (x : V) (xs : List V) : Bool := xs.any fun y => eqV y x
/-- x in a list or tuple of flat items -/
def rIn (K : PySem.W.Frag) (neg : Bool) : R2 := fun x y H Q => ∃ p xs, y = .ref p ∧ (SqL K H p xs ∨ SqT K H p xs) ∧ flatV x = true ∧ xs.all flatV = true ∧ Q (.bl (if neg then !inV x xs else inV x xs)) H
theorem op_notIn_seq : OpR X (compareOp .NotIn) (rIn X.K true) := by
  intro pins s σ H x y v u Q I rx ry h
  obtain ⟨p, xs, rfl, hq, fx, fs, q⟩ := h
  cases ry
  rcases hq with hq | hq
  · obtain ⟨its, r, pl, hz⟩ := I.list hq
    refine SeqAt.notIn_listAt (eqU x) pl.isList (fun w hw => mem_eqAt rx fx r fs w (by simpa using hw)) ⟨.bl _, H, I, rfl, ?_⟩
    rw [show its.toArray.any (eqU x) = its.any (eqU x) by simp, any_eqU r fs]
    exact q
  · obtain ⟨its, r, pl, hz⟩ := I.tuple hq
    refine SeqAt.notIn_tupleAt (eqU x) pl (fun w hw => mem_eqAt rx fx r fs w (by simpa using hw)) ⟨.bl _, H, I, rfl, ?_⟩
    rw [show its.toArray.any (eqU x) = its.any (eqU x) by simp, any_eqU r fs]
    exact q
/-! ### len, list(x), tuple(x) of any list or tuple that is read -/
theorem call_len_seq : CallR X (.builtin "len") (fun xs H Q => ∃ p ys, xs = [.ref p] ∧ (SqL X.K H p ys ∨ SqT X.K H p ys) ∧ Q (.int ys.length) H) := by
  intro pins s σ H xs us Q I r h
  obtain ⟨p, ys, rfl, hq, q⟩ := h
  obtain ⟨u, rfl, rx⟩ := vals1 r
  cases rx
  have hn := line63
  rcases hq with hq | hq
  · obtain ⟨its, r', pl, hz⟩ := I.list hq
    have hlen := r'.length
    exact Calls.call_len_list pl.isList (by simp only [List.size_toArray] <;> omega) ⟨.int ys.length, H, I.tok _, ⟨s.toks + 1, by rw [List.size_toArray, hlen]⟩, q⟩
  · obtain ⟨its, r', pl, hz⟩ := I.tuple hq
    have hlen := r'.length
    exact len_tuple pl (by simp only [List.size_toArray] <;> omega) ⟨.int ys.length, H, I.tok _, ⟨s.toks + 1, by rw [List.size_toArray, hlen]⟩, q⟩
theorem call_list_of : CallR X (.type "list") (fun xs H Q => ∃ p ys, xs = [.ref p] ∧ (SqL X.K H p ys ∨ SqT X.K H p ys) ∧ ∀ l, H l = none → Q (.ref l) (upd H l (.lst ys))) := by
  intro pins s σ H xs us Q I r h
  obtain ⟨p, ys, rfl, hq, q⟩ := h
  obtain ⟨u, rfl, rx⟩ := vals1 r
  cases rx
  have fin : ∀ (its : List Value), Vals ys its → ys.length ≤ sizeLine → ∀ (h' : Heap) (c' : Nat), (∀ b o', s.heap.get? b = some o' → h'.get? b = some o') →
      h'.get? s.heap.objs.size = some { cls := .type "list", dict := none, data := .seq its.toArray c', slots := #[] } → EP X pins σ Q (.ref s.heap.objs.size) { s with heap := h' } := fun its r' hz h' c' kp e =>
    ⟨.ref s.heap.objs.size, _, I.laid (t' := s.toks) kp (Nat.le_refl _) (show ObjOk X.prog X.w _ h' _ (.lst ys) from ⟨hz, its, c', r', e⟩), rfl, q _ (I.hok.fresh (Nat.le_refl _))⟩
  rcases hq with hq | hq
  · obtain ⟨its, r', pl, hz⟩ := I.list hq
    have hlen := r'.length
    obtain ⟨o, ho, hc, n, hd⟩ := pl.isList
    exact call_list_seq p (.inl rfl) ho hc hd (fun h' c' kp e => fin its r' hz h' c' kp e) (by simp only [List.size_toArray] <;> omega)
  · obtain ⟨its, r', pl, hz⟩ := I.tuple hq
    have hlen := r'.length
    obtain ⟨o, ho, hc, n, hd⟩ := pl
    exact call_list_seq p (.inr rfl) ho hc hd (fun h' c' kp e => fin its r' hz h' c' kp e) (by simp only [List.size_toArray] <;> omega)
/-! ### the call of a builtin's method: o.m(..) -/
/-- the value is of that builtin type -/
def tyV (K : PySem.W.Frag) (T : String) (x : V) (H : Hp) : Prop := match x with
  | .str _ => T = "str"
  | .int _ => T = "int"
  | .ref p => (T = "list" ∧ ∃ xs, SqL K H p xs) ∨ (T = "tuple" ∧ ∃ o, K.lookup p = some o ∧ o.cls = .type "tuple" ∧ o.dict = none) ∨
      (T = "dict" ∧ ((∃ kvs, H p = some (.dK kvs)) ∨ ∃ kvs, H p = some (.dT kvs))) ∨ (T = "set" ∧ ∃ S n, H p = some (.set S n))
  | _ => False
theorem tyV_is {pins : List (Addr × Obj)} {σ : St} {H : Hp} {s : Shared} {T : String} {x : V} {v : Value} (I : Inv X pins σ H s) (r : RelV x v) (ty : tyV X.K T x H) :
    s.TypeIs v T ∧ ∀ a, v = .ref a → ∃ ob, s.heap.get? a = some ob ∧ ob.dict = none := by
  cases x with
  | str z =>
    obtain ⟨t, rfl⟩ := r
    cases (show T = "str" from ty)
    exact ⟨typeIs_str s z t, fun _ e => nomatch e⟩
  | int i =>
    obtain ⟨t, rfl⟩ := r
    cases (show T = "int" from ty)
    exact ⟨typeIs_int s i t, fun _ e => nomatch e⟩
  | ref p =>
    cases r
    rcases ty with ⟨rfl, xs, hq⟩ | ⟨rfl, o, hk, hc, hd⟩ | ⟨rfl, hk⟩ | ⟨rfl, S, n, hk⟩
    · obtain ⟨its, _, pl, _⟩ := I.list hq
      refine ⟨pl.isList.typeIs, fun a e => ?_⟩
      cases e
      obtain ⟨o, n, e, c, hd, _⟩ := pl
      exact ⟨o, e, hd⟩
    · refine ⟨⟨o, I.kIn p o hk, hc⟩, fun a e => ?_⟩
      cases e
      exact ⟨o, I.kIn _ o hk, hd⟩
    · have z : ∃ o, s.heap.get? p = some o ∧ o.ExactDict := by
        rcases hk with ⟨kvs, hk⟩ | ⟨kvs, hk⟩
        · obtain ⟨_, _, _, _, o, _, _, e, ex, _⟩ := I.hok p _ hk
          exact ⟨o, e, ex⟩
        · obtain ⟨_, _, _, _, o, _, _, e, ex, _⟩ := I.hok p _ hk
          exact ⟨o, e, ex⟩
      obtain ⟨o, e, ex⟩ := z
      refine ⟨⟨o, e, ex.1⟩, fun a e2 => ?_⟩
      cases e2
      exact ⟨o, e, ex.2.1⟩
    · obtain ⟨o, _, _, _, e, ex, _⟩ := I.hok p _ hk
      refine ⟨⟨o, e, ex.1⟩, fun a e2 => ?_⟩
      cases e2
      exact ⟨o, e, ex.2.1⟩
  | _ => exact False.elim ty
def tBM (K : PySem.W.Frag) (T : String) (r : V → List V → Hp → VK → Prop) (to : TE) (t : TA) : TE := fun σ H Q => to σ H fun x H1 => tyV K T x H1 ∧ t σ H1 fun xs H2 => r x xs H2 Q
variable {o e : Expr} {es : List Expr} {to : TE} {t : TA} {name : Str} {apos cpos : Pos} {T id : String} {r : V → List V → Hp → VK → Prop}
theorem pe_bm (pa : PlainAttrs T) (slot : Slot T name id) (hty : typeOf (.builtin id) = pure (.type "method_descriptor")) (hm : MtR X id r) (ho : PE X o to) (ha : PA X (e :: es) t)
    (hbase : attributeBase o name X.env (eval o X.env) = eval o X.env := by rfl)
    (hfew : ((backTo cpos (starEach (e :: es) X.env)).all (fun x => !x.1) && (backToKw cpos (keywordEach [] X.env)).all (fun x => x.1.isSome)
      && decide ((e :: es).length + ([] : List Keyword).length + (if ([] : List Keyword).isEmpty then 0 else 1) < 30)) = true := by rfl)
    (hline : (apos.endLine == cpos.line) = true := by rfl) (hs : starEach (e :: es) X.env = (false, eval e X.env) :: starEach es X.env := by rfl) (hplain : (backTo cpos (starEach es X.env)).any (·.1) = false := by rfl) :
    PE X (.Call (.Attribute o name apos) (e :: es) [] cpos) (tBM X.K T r to t) := by
  intro pins s σ H Q I h
  refine wpAny_Call_method_late hbase hfew hline rfl (thn (ho pins s σ H _ I h) fun v s1 ⟨x, H1, I1, r1, ty, q1⟩ => ?_)
  obtain ⟨h1, h2⟩ := tyV_is I1 r1 ty
  refine ⟨T, id, pa, slot, hty, h1, h2, ?_⟩
  have hA := ha cpos pins s1 σ H1 _ I1 q1
  rw [hs] at hA ⊢
  refine Calls.callWith_builtin (by show (false || (backTo cpos (starEach es X.env)).any (·.1)) = false; rw [hplain] <;> rfl) (Calls.evalArgs_plain ?_)
  exact thn hA fun us s2 ⟨vs, H2, I2, r2, q2⟩ => hm pins s2 σ H2 x vs v us Q I2 r1 r2 q2
/- xs.append(e), list.index on a module's tuple .. are MtR facts of 06m -/
end
end L2

namespace L2
open PySem PySem.Spec PyProof.Rows

def MtM (X : Cx) (id : String) (r : V → List V → Hp → VK → Prop) : Prop :=
  ∀ (pins : List (Addr × Obj)) (s : Shared) (σ : St) (H : Hp) (x : V) (xs : List V) (v : Value) (us : List Value) (Q : VK), Inv X pins σ H s → RelV x v → Vals xs us → r x xs H Q →
    wpAny (model X.prog X.w) X.A (call (.builtin id) (v :: us)) (EP X pins σ Q) X.xe s

/-! ### lists of values -/
theorem Vals.one : ∀ {x : V} {us : List Value}, Vals [x] us → ∃ u, us = [u] ∧ RelV x u
  | _, _, .cons r .nil => ⟨_, rfl, r⟩
section
variable {X : Cx} {pins : List (Addr × Obj)} {σ : St} {H : Hp} {s : Shared} {l b : Addr} {xs ys zs : List V}

/-! ### the two steps: a tracked list is rewritten, a new list is laid -/
theorem Inv.lset {its its' : List Value} {n : Nat} {f : Array Value → Array Value} {t' : Nat} (I : Inv X pins σ H s) (hH : H l = some (.lst xs))
    (e : s.heap.get? l = some { cls := .type "list", data := .seq its.toArray n }) (hf : f its.toArray = its'.toArray) (hv : Vals ys its') (hz : ys.length ≤ sizeLine) :
    Inv X pins σ (upd H l (.lst ys)) { s with heap := s.heap.update l (Obj.mapSeq f), toks := t' } := by
  have q := PySem.IsL.update e f
  rw [hf] at q
  refine I.write (x := l) (e := l) (by rw [hH]; exact trivial) (.inl rfl) (fun b' u hb hu => (Heap.get?_update_other s.heap (Obj.mapSeq f) (Ne.symm hb)).trans hu) ⟨_, q⟩ ?_
  exact ⟨hz, its', _, hv, q⟩
theorem Inv.lnew {its : List Value} {t' : Nat} (I : Inv X pins σ H s) (hv : Vals ys its) (hz : ys.length ≤ sizeLine) :
    Inv X pins σ (upd H s.heap.objs.size (.lst ys)) { s with heap := s.heap.push { cls := .type "list", data := .seq its.toArray }, toks := t' } :=
  I.laid (fun _ _ q => Heap.get?_push_of_some _ q) (Nat.le_refl _) ⟨hz, its, 0, hv, Heap.get?_push_size _ rfl⟩
theorem Inv.fresh (I : Inv X pins σ H s) : H s.heap.objs.size = none := I.hok.fresh (Nat.le_refl _)
theorem Inv.lstM (I : Inv X pins σ H s) (hH : H l = some (.lst xs)) : xs.length ≤ sizeLine ∧ ∃ (its : List Value) (n : Nat), Vals xs its ∧ xs.length = its.length ∧ s.heap.get? l = some { cls := .type "list", data := .seq its.toArray n } := by
  obtain ⟨z, its, n, r, e⟩ := I.hok l _ hH
  exact ⟨z, its, n, r, r.length, e⟩

end

section
variable {X : Cx}

/-! ### methods -/
def rAppend : V → List V → Hp → VK → Prop := fun x vs H Q => ∃ l xs y, x = .ref l ∧ vs = [y] ∧ H l = some (.lst xs) ∧ xs.length < sizeLine ∧ Q .non (upd H l (.lst (xs ++ [y])))
theorem mt_append : MtM X "list.append" rAppend := by
  intro pins s σ H x vs v us Q I rx rv h
  obtain ⟨l, xs, y, rfl, rfl, hH, hz, q⟩ := h
  cases rx
  obtain ⟨u, rfl, ru⟩ := rv.one
  obtain ⟨z, its, n, r, hl, e⟩ := I.lstM hH
  refine call_meets F.slot_list_append ⟨_, e, rfl⟩ F.entry_list_append (F.args_list_append_2 _ _) (PySem.list_append l its.toArray n u (by rw [List.size_toArray]; omega)) ⟨e, ?_⟩
  refine ⟨.non, _, I.lset (its' := its ++ [u]) hH e (by simp) (r.append (.cons ru .nil)) ?_, rfl, q⟩
  rw [List.length_append, List.length_singleton]
  omega

/-! ### list + list, list += list, list * int -/
def rCat : R2 := fun x y H Q => ∃ l b xs zs, x = .ref l ∧ y = .ref b ∧ H l = some (.lst xs) ∧ H b = some (.lst zs) ∧ xs.length + zs.length ≤ sizeLine ∧ ∀ p, H p = none → Q (.ref p) (upd H p (.lst (xs ++ zs)))
theorem op_cat : OpR X (binaryOp .Add) rCat := by
  intro pins s σ H x y v u Q I rx ry h
  obtain ⟨l, b, xs, zs, rfl, rfl, hH, hB, hz, q⟩ := h
  cases rx
  cases ry
  obtain ⟨z, its, n, r, hl, e⟩ := I.lstM hH
  obtain ⟨z2, its2, n2, r2, hl2, e2⟩ := I.lstM hB
  refine PySem.P.add_list e e2 ?_ (by rw [List.size_toArray, List.size_toArray]; omega)
  have ea : its.toArray ++ its2.toArray = (its ++ its2).toArray := by simp
  rw [ea]
  exact ⟨.ref _, _, I.lnew (t' := s.toks) (r.append r2) (by rw [List.length_append]; omega), rfl, q _ I.fresh⟩
/-! ### del xs[i] -/
end

/-! ### xs[a:b] = ys -/
section
variable {prog : Program} {w : World} {A : Around} {E : Value → Shared → Prop} {s : Shared}
end

section
variable {X : Cx}
end
end L2

namespace Att
open PySem PySem.W PySem.Calls PyProof.Rows

/-! ### the script -/
theorem ints_of_wellAll {P : Params} {h : Heap} : ∀ (ns : List Int) (vs : List Value), WellAll P h vs (ns.map WData.int) → IntsAre vs ns := by
  intro ns
  induction ns with
  | nil =>
    intro vs w
    rw [List.map_nil] at w
    cases w
    exact .nil
  | cons n ns ih =>
    intro vs w
    rw [List.map_cons] at w
    cases w with
    | cons a b =>
      cases a
      exact .cons _ _ (ih _ b)

theorem script_of {l : OpenLaw} {n : Nat} (hn : l.most = some n) {P : Params} {h : Heap} {args : List WData} {vals : List Value}
    (hpre : l.row.toRowW.claim.pre args = true) (hwl : WellAll P h vals args) :
    ∃ a vs ns, vals = [Value.ref a] ∧ args = [WData.list (ns.map WData.int)] ∧ h.get? a = some { cls := .type "list", data := .seq vs.toArray } ∧ IntsAre vs ns ∧ ns.length ≤ n := by
  have hsh : WShape.hasAll [] args [.list .int] = true := (pre_splitW hpre).1
  have hc : l.pre.holds [] { args := args } = true := (pre_splitW hpre).2
  obtain ⟨d, r, rfl, h1, h2⟩ := hasAllW_cons hsh
  obtain rfl := hasAllW_nil h2
  obtain ⟨xs, rfl, h3⟩ := hasW_list h1
  obtain ⟨ns, rfl⟩ := items_int h3
  have hlen : ns.length ≤ n := by
    unfold OpenLaw.pre at hc
    have h4 : (WTm.not (.lt (.lit (.int (n : Int))) (.len (.arg 0)))).holds [] { args := [.list (ns.map .int)] } = true := by
      have h4 := (holds_andW hc).1
      rw [hn] at h4
      exact h4
    have h5 := condW_of h4 (w_not (w_lt w_lit (w_len_list (w_arg rfl))))
    rw [List.length_map] at h5
    refine Nat.le_of_not_lt fun q => ?_
    have q' : (n : Int) < ((ns.length : Nat) : Int) := by omega
    first
      | (rw [decide_eq_true q'] at h5; exact absurd h5 (by decide))
      | (simp at h5; omega)
  cases hwl with
  | cons w1 w2 =>
    cases w2
    cases w1 with
    | list ho hall => exact ⟨_, _, ns, rfl, rfl, ho, ints_of_wellAll ns _ hall, hlen⟩

theorem post_true (l : OpenLaw) (args : List WData) : l.row.toRowW.claim.post args (.bool true) args = true :=
  postW_of (r := l.row.toRowW) (X := (true == true))
    (show WShape.has [] (.bool true) .bool = true by first | rfl | decide | simp [WShape.has, WShape.arms, WShape.armsAll])
    (show (WTm.eq .res (.lit (.bool true))).value [] { args := args, res := some (.bool true), after := args } = some (.bool (true == true)) from w_eq_bool (w_res rfl) w_lit) rfl

/-! ### the attachment: holds_open's last premise (the goal 'hc' behind k_head) from a wpAny of the law's body -/
/-- the same from a codeAny of the CALL (for a layer whose function contracts speak of calls) -/
theorem attach_call {l : OpenLaw} {n : Nat} {q : Program} {loose : List Str} {XP : (Str → Option Value) → Heap → Prop} {YP : World → Heap → Prop} {d : DefRec}
    (hn : l.most = some n) (hdf : d.params.defaults = [])
    (call : ∀ (w : World) (s₀ s₁ : Shared) (mg mb : Str → Option Value) (fa : Addr) (o : Obj) (pm cd doc : Value) (a : Addr) (vs : List Value) (ns : List Int),
      Ground q loose [] XP w s₀ mg mb s₁.heap → YP w s₁.heap →
      s₁.heap.get? fa = some o → o.data = .func (docDef d.name d.params d.body d.scope pm cd doc) → s₁.heap.CodeRec cd d.name → mg d.name = some (.ref fa) →
      s₁.heap.get? a = some { cls := .type "list", data := .seq vs.toArray } → IntsAre vs ns → ns.length ≤ n → s₁.gens = #[] →
      codeAny (model l.prog w) callerA (.call (.ref fa) ⟨[.ref a], []⟩) (fun r s' => r = .ok (.ret (.bool true)) ∧ OldK s₁.heap s'.heap ∧ s'.os = s₁.os ∧ AllBare s'.gens) s₁) :
    WalkO q loose XP YP l.row.toRowW d [] (fun f vs => PySem.call f vs) := by
  intro w s₀ s₁ mg mb G Y fa o pm cd doc dV kV ho hd hcd hD hmg hg args vals as hpre hlay hrd hwl hlo
  obtain rfl : dV = .none := Dflts.none hD hdf
  obtain rfl : kV = .none := Dflts.noKw hD
  obtain ⟨a, vs, ns, rfl, rfl, hobj, hints, hlen⟩ := script_of hn hpre hwl
  refine enter_call (codeAny_mono (call w s₀ s₁ mg mb fa o pm cd doc a vs ns G Y ho (fd_plain hd) hcd hmg hobj hints hlen hg) fun r s' hq => ?_)
  obtain ⟨rfl, h2, h3, h4⟩ := hq
  exact ⟨.inl ⟨.bool true, .bool true, [], rfl, fun _ => rfl, .bool true, post_true l _, fun _ => ⟨List.Pairwise.nil, fun _ hm => (nomatch hm)⟩⟩, h2, h3, h4⟩

/-! ### rules over ANY heap (no ledger) from facts about the written part K: the library's own take a ledger (News) for what they write -/
section
variable {prog : Program} {w : World} {A : Around} {E : Value → Shared → Prop} {s : Shared} {K : Frag}

/-! the whole heap as the ledger: makes every rule that writes through a ledger a rule over any heap -/
def ledger (h : Heap) (L d : Addr) : List (Addr × Obj) := (List.range h.objs.size).filterMap fun a => if a = L ∨ a = d then none else (h.get? a).map fun o => (a, o)
end
end Att

namespace L2
open PySem PySem.Spec PyProof.Rows

theorem vals_ints : ∀ {vs : List Value} {ns : List Int}, IntsAre vs ns → Vals (ns.map V.int) vs
  | _, _, .nil => .nil
  | _, _, .cons n t h => .cons ⟨t, rfl⟩ (vals_ints h)

/-- nothing is tracked but the script, known to the object (or it is an object of the module) -/
def Only (H : Hp) : Prop := ∀ b, H b = none ∨ ∃ o xs, H b = some (.frz o (.lst xs))

/-- THE HEAD: the law's promise, at the heap behind the top. F, the promise of the law's def, may use that base is part of the heap (so K.In base, base.Ns mainGlobals mg stand in Mod) -/
theorem law_call {P : Program} {w : World} {K : PySem.W.Frag} {mg mb : Str → Option Value} {CX : CXT} {k : Nat} {fa a : Addr} {fd : FuncData} {x : Str} {sp : Sp} {s₁ : Shared} {vs : List Value} {ns : List Int}
    (KX : K.In s₁.heap) (hns : s₁.heap.Ns mainGlobals mg) (hb : s₁.heap.Ns builtinsNs mb) (hbb : ∀ x : Str, x ≠ "__name__" → mb x = bootBuiltins x) (hlim : s₁.heap.NoLimit) (hg : s₁.gens = #[])
    (ha : s₁.heap.get? a = some { cls := .type "list", data := .seq vs.toArray }) (hi : IntsAre vs ns) (hl : ns.length ≤ sizeLine) (hr : Room k callerA)
    (F : ∀ base : Heap, K.In base → base.Ns mainGlobals mg → FnOk P w K mg base CX k fa fd [x] sp) (hbind : ∀ (s : Shared) (u : Value), BindsTo s fd ⟨[u], []⟩ [(x, u)])
    (hsp : ∀ H : Hp, Only H → SqL K H a (ns.map V.int) → sp [.ref a] H (fun v _ => v = .bl true) fun _ _ _ => False)
    (hCX : ∀ H e s', CX [] H s₁ (fun _ _ _ => False) e s' → False) :
    codeAny (model P w) callerA (.call (.ref fa) ⟨[.ref a], []⟩) (fun r s' => r = .ok (.ret (.bool true)) ∧ OldK s₁.heap s'.heap ∧ s'.os = s₁.os ∧ AllBare s'.gens) s₁ := by
  have rv := vals_ints hi
  have lenV := hi.length
  -- from an abstract heap in which nothing but the script may be tracked
  have core : ∀ H : Hp, Only H → SqL K H a (ns.map V.int) → HOk P w H s₁.heap → (∀ b, H b ≠ none → b = a) → (H a ≠ none → K.lookup a = none) →
      codeAny (model P w) callerA (.call (.ref fa) ⟨[.ref a], []⟩) (fun r s' => r = .ok (.ret (.bool true)) ∧ OldK s₁.heap s'.heap ∧ s'.os = s₁.os ∧ AllBare s'.gens) s₁ := by
    intro H hO hS hok hA hK
    have base_of : ∀ {b : Addr} {o : Obj}, s₁.heap.get? b = some o → H b = none → (hidT s₁.heap H).get? b = some o := fun e n => hidT_get e n
    have noA : ∀ {b : Addr} {o : Obj} {es : Array DictEntry} {ep : Nat}, s₁.heap.get? b = some o → o.data = .dict es ep → H b = none := fun {b o es ep} e d => by
      cases q : H b with
      | none => rfl
      | some u =>
        have e' : b = a := hA b (by rw [q]; simp)
        subst e'
        rw [ha] at e; cases e
        have d' : Data.seq vs.toArray _ = Data.dict es ep := d
        cases d'
    have nsK : ∀ {b : Addr} {m : Str → Option Value}, s₁.heap.Ns b m → (hidT s₁.heap H).Ns b m := fun {b m} ⟨o, es, ep, e, d, r⟩ => ⟨o, es, ep, base_of e (noA e d), d, r⟩
    have hKb : K.In (hidT s₁.heap H) := fun b o e => base_of (KX b o e) (by
      cases q : H b with
      | none => rfl
      | some u =>
        have e' : b = a := hA b (by rw [q]; simp)
        subst e'
        rw [hK (by rw [q]; simp)] at e; cases e)
    have hM : Mod K mg (hidT s₁.heap H) := ⟨hKb, nsK hns, ⟨mb, nsK hb, hbb⟩, let ⟨mc, h1, h2⟩ := hlim; ⟨mc, nsK h1, h2⟩⟩
    have e0 : Env0 P w K mg (hidT s₁.heap H) callerA [] s₁ H := ⟨rfl, hM, fun b o e => of_hidT e, Nat.le_of_eq (hidT_size _ _), trivial, fun b hb => absurd (show b ∈ ([] : List Addr) from hb) (by simp), hok, .of_eq hg⟩
    refine codeAny_mono ((F _ hKb (nsK hns)).run callerA [] s₁ H ⟨[.ref a], []⟩ [.ref a] [.ref a] _ _ hr e0 (hbind s₁ (.ref a)) (.cons rfl .nil) (hsp H hO hS)) fun r s' h => ?_
    cases r with
    | error e => exact (hCX H e s' h).elim
    | ok fl =>
      cases fl with
      | next => exact False.elim h
      | brk => exact False.elim h
      | cont => exact False.elim h
      | ret u =>
        obtain ⟨v, H', os, bare, un, hok', r', q⟩ := h
        have q' : v = .bl true := q
        subst q'
        obtain rfl : u = Value.bool true := r'
        refine ⟨rfl, OldK.of_keep fun b o e => ?_, os, bare⟩
        cases q : H b with
        | none => exact un.keep b o e q (by intro z; exact absurd (show b ∈ ([] : List Addr) from z) (by simp)) (by simp)
        | some u =>
          rcases hO b with z | ⟨ob, xs, z⟩
          · rw [q] at z; cases z
          · have z2 := un.frzs b ob _ z
            obtain ⟨e1, _⟩ := hok b _ z
            obtain ⟨e2, _⟩ := hok' b _ z2
            rw [e] at e1; cases e1
            exact e2
  cases hk : K.lookup a with
  | some o =>
    -- the script is one of the module's own objects
    have e := KX a o hk
    rw [ha] at e
    cases e
    refine core (fun _ => none) (fun _ => .inl rfl) (.inr ⟨_, vs.toArray, _, hk, rfl, rfl, rfl, by rw [List.size_toArray, lenV]; exact hl, by simpa using rv⟩) (fun b u z => by have z' : (none : Option HO) = some u := z; cases z') (fun b z => absurd rfl z) fun z => absurd rfl z
  | none =>
    refine core (fun b => if b = a then some (.frz { cls := .type "list", data := .seq vs.toArray } (.lst (ns.map V.int))) else none) (fun b => ?_) (.inl (.inr ⟨{ cls := .type "list", data := .seq vs.toArray }, if_pos rfl⟩)) (fun b u z => ?_) (fun b z => ?_) fun _ => hk
    · by_cases hb : b = a
      · exact .inr ⟨_, _, if_pos hb⟩
      · exact .inl (if_neg hb)
    · by_cases hb : b = a
      · have z' := (if_pos hb).symm.trans z
        cases z'
        subst hb
        exact ⟨ha, by rw [List.length_map]; exact hl, vs, _, rv, ha⟩
      · have z' := (if_neg hb).symm.trans z
        cases z'
    · by_cases hb : b = a
      · exact hb
      · exact absurd (if_neg hb) z
end L2

namespace L2
open PySem PySem.Spec PyProof.Rows

/-- the goal that k_head leaves (case hc), from the law's promise. F gives the function object fd (K's own) once, then the promise over every base -/
theorem walk_of {l : PySem.W.OpenLaw} {n k : Nat} {q : Program} {loose : List Str} {XP : (Str → Option Value) → Heap → Prop} {YP : World → Heap → Prop} {d : DefRec} {K : Params → PySem.W.Frag} {CX : World → CXT} {sp : World → Sp} {x : Str}
    (hn : l.most = some n) (hn2 : n ≤ sizeLine) (hdf : d.params.defaults = []) (hr : Room k callerA)
    (hY : ∀ (w : World) (h : Heap), YP w h → (K w.params).In h)
    (F : ∀ (w : World) (mg : Str → Option Value) (fa : Addr) (h : Heap), (K w.params).In h → h.Ns mainGlobals mg → mg d.name = some (.ref fa) →
      ∃ fd : FuncData, (∀ (s : Shared) (u : Value), BindsTo s fd ⟨[u], []⟩ [(x, u)]) ∧
        ∀ base : Heap, (K w.params).In base → base.Ns mainGlobals mg → FnOk l.prog w (K w.params) mg base (CX w) k fa fd [x] (sp w))
    (hsp : ∀ (w : World) (H : Hp) (a : Addr) (ns : List Int), ns.length ≤ n → Only H → SqL (K w.params) H a (ns.map V.int) → sp w [.ref a] H (fun v _ => v = .bl true) fun _ _ _ => False)
    (hCX : ∀ (w : World) (H : Hp) (s : Shared) (e : Value) (s' : Shared), CX w [] H s (fun _ _ _ => False) e s' → False) :
    PySem.W.WalkO q loose XP YP l.row.toRowW d [] (fun f vs => PySem.call f vs) := by
  refine Att.attach_call hn hdf fun w s₀ s₁ mg mb fa o pm cd doc a vs ns G Y ho hd hcd hmg hobj hints hlen hg => ?_
  have KX := hY w _ Y
  obtain ⟨fd, hb, hF⟩ := F w mg fa _ KX G.T.g hmg
  exact law_call KX G.T.g G.T.b G.T.builtins G.T.nolimit hg hobj hints (Nat.le_trans hlen hn2) hr hF hb (fun H hO hS => hsp w H a ns hlen hO hS) fun H e s' => hCX w H s₁ e s'
end L2

/-! SHORT WORDS over the layer: a def of the text, its body, what a loop and a test want. -/
namespace L2
open PySem PySem.Spec PyProof.Rows

/-! ### the text by places -/
def defArgs (s : Stmt) : Arguments := match s with
  | .FunctionDef _ a _ _ _ _ _ _ _ _ => a
  | _ => { posonlyargs := [], args := [], vararg := none, kwonlyargs := [], kw_defaults := [], kwarg := none, defaults := [] }
def defBody (s : Stmt) : List Stmt := match s with
  | .FunctionDef _ _ b _ _ _ _ _ _ _ => b
  | _ => []
def defScope (s : Stmt) : Scope := match s with
  | .FunctionDef _ _ _ _ _ _ sc _ _ _ => sc
  | _ => { kind := .function, names := [], isGenerator := false, isCoroutine := false }

/-! ### no exception leaves a def -/
abbrev CX0 : CXT := fun _ _ _ _ _ _ => False
abbrev E0 : XK := fun _ _ _ => False
theorem pass0 {X : Cx} : Passes CX0 X E0 := fun _ _ _ _ _ _ _ h => h.elim

/-! ### a def (or method) of the text as it stands behind the top -/
structure Fun (K : PySem.W.Frag) (x qual : Str) (st : Stmt) (f : Addr) (fd : FuncData) : Prop where
  ex : ∃ (oc : Value) (od : Option Addr) (kV doc pm : Value) (an : Option Addr) (cdv ct : Value) (osl : Array (Option Value)),
    fd = PySem.W.fnOf x qual (defArgs st) (defBody st) (defScope st) .none kV doc pm an cdv ct ∧ K.lookup f = some ⟨oc, od, .func fd, osl⟩ ∧ PySem.W.codeIn K cdv qual = true
  kp : PySem.W.keepIn K (.ref f) = true
section
variable {P : Program} {w : World} {K : PySem.W.Frag} {mg : Str → Option Value} {base : Heap}
/-- THE RULE for a def: its body as a term of rules, and the reading of that term -/
theorem Fun.ok {x qual : Str} {st : Stmt} {f : Addr} {fd : FuncData} {N ps : List Str} {k : Nat} {sp : Sp} (F : Fun K x qual st f fd) (S : FnScope N ps (defScope st)) (len : ∀ vs H Q E, sp vs H Q E → vs.length = ps.length)
    (hbody : ∀ (cdv : Value) (A : Around) (outer : List Env) (s : Shared) (H : Hp) (vs : List V) (Q : VK) (E : XK), Room k (A.deeper (envOfC qual (defScope st) s.heap.objs.size f cdv)) → sp vs H Q E →
      ∃ t, PSs (cxOf CX0 P w K mg base N qual (defScope st) f cdv A outer s H E).nox (defBody st) t ∧ t { nx := fun _ H' => Q .non H', rt := Q } (start N vs) H) : FnOk P w K mg base CX0 (k + 1) f fd ps sp := by
  obtain ⟨oc, od, kV, doc, pm, an, cdv, ct, osl, rfl, lk, hcd⟩ := F.ex
  refine fn_of lk hcd S len fun A outer s H vs Q E hr hsp => ?_
  obtain ⟨t, h, q⟩ := hbody cdv A outer s H vs Q E hr hsp
  exact ⟨t, h.nox, q⟩
/-- how its arguments bind (no defaults): h is «fun _ _ _ _ _ _ us hl => match us, hl with | [_, _], _ => rfl», one _ a parameter -/
theorem Fun.binds {x qual : Str} {st : Stmt} {f : Addr} {fd : FuncData} {ps : List Str} (F : Fun K x qual st f fd)
    (h : ∀ (kV doc pm : Value) (an : Option Addr) (cdv ct : Value) (us : List Value), us.length = ps.length → bindArgs (PySem.W.fnOf x qual (defArgs st) (defBody st) (defScope st) .none kV doc pm an cdv ct) ⟨us, []⟩ = pure (ps.zip us)) : Binds K fd ps [] := by
  obtain ⟨oc, od, kV, doc, pm, an, cdv, ct, osl, rfl, lk, hcd⟩ := F.ex
  exact .all (h kV doc pm an cdv ct)
theorem fun_mk {x qual : Str} {st : Stmt} {f : Addr} {oc : Value} {od an : Option Addr} {osl : Array (Option Value)} {kV doc pm cdv ct : Value} (l : K.lookup f = some ⟨oc, od, .func (PySem.W.fnOf x qual (defArgs st) (defBody st) (defScope st) .none kV doc pm an cdv ct), osl⟩)
    (c : PySem.W.codeIn K cdv qual = true) (k : PySem.W.keepIn K (.ref f) = true) : Fun K x qual st f (PySem.W.fnOf x qual (defArgs st) (defBody st) (defScope st) .none kV doc pm an cdv ct) := ⟨⟨oc, od, kV, doc, pm, an, cdv, ct, osl, rfl, l, c⟩, k⟩
end
theorem small1000 {n : Nat} (h : n ≤ 1000) : n < sizeLine := Nat.lt_of_le_of_lt h (by decide)

/-! ### expressions in short: the name that stands in the i-th slot -/
section
variable {X : Cx}
theorem pv (i : Nat) {x : Str} {pos : Pos} (hN : X.N[i]? = some x := by rfl) (hv : Vis X.env.scope x := by first | exact Or.inl rfl | exact Or.inr (Or.inl rfl) | exact Or.inr (Or.inr rfl)) (hd : (x == ("__debug__" : Str)) = false := by decide)
    (hcd : (x == ("__classdict__" : Str)) = false := by decide) : PE X (.Name x pos) (tVar i) := pe_var hN hv hd hcd
end

/-! ### tests -/
theorem iteF {A B : Prop} (h : B) : if false = true then A else B := by
  rw [if_neg Bool.false_ne_true]
  exact h
theorem iteT {A B : Prop} (h : A) : if true = true then A else B := by
  rw [if_pos rfl]
  exact h
/-! ### heaps -/
/-- all that was tracked is as it was -/
def Same (H H' : Hp) : Prop := ∀ b o, H b = some o → H' b = some o
theorem Same.refl (H : Hp) : Same H H := fun _ _ h => h
theorem Same.trans {H H1 H2 : Hp} (a : Same H H1) (b : Same H1 H2) : Same H H2 := fun c o h => b c o (a c o h)
theorem Same.free {H H' : Hp} (e : Same H H') {l : Addr} (h : H' l = Option.none) : H l = Option.none := by
  cases q : H l with
  | none => rfl
  | some o =>
    rw [e l o q] at h
    cases h
theorem Same.seq {K : PySem.W.Frag} {H H' : Hp} {a : Addr} {xs : List V} (e : Same H H') (h : SqL K H a xs) : SqL K H' a xs := by
  rcases h with (h | ⟨o, h⟩) | h
  · exact .inl (.inl (e _ _ h))
  · exact .inl (.inr ⟨o, e _ _ h⟩)
  · exact .inr h

end L2

set_option maxHeartbeats 4000000
namespace L2
open PySem PySem.Spec PyProof.Rows
/-! ### lists of pairs as tables -/
section
variable {κ : Type} [DecidableEq κ]
def valV (kvs : List (κ × V)) (k : κ) : Option V := (kvs.find? fun kv => decide (kv.1 = k)).map (·.2)
/-- in its place, or at the end -/
def putK (kvs : List (κ × V)) (k : κ) (v : V) : List (κ × V) :=
  if (kvs.any fun kv => decide (kv.1 = k)) = true then kvs.map (fun kv => if kv.1 = k then (kv.1, v) else kv) else kvs ++ [(k, v)]
theorem valV_pos {p : κ × V} {r : List (κ × V)} {k : κ} (e : p.1 = k) : valV (p :: r) k = some p.2 := by simp [valV, List.find?_cons, e]
theorem valV_neg {p : κ × V} {r : List (κ × V)} {k : κ} (e : ¬ p.1 = k) : valV (p :: r) k = valV r k := by simp [valV, List.find?_cons, e]
theorem valV_any (k : κ) : ∀ kvs : List (κ × V), (kvs.any fun kv => decide (kv.1 = k)) = (valV kvs k).isSome
  | [] => rfl
  | p :: r => by
    rw [List.any_cons]
    by_cases e : p.1 = k
    · simp only [valV_pos e, decide_eq_true e, Bool.true_or, Option.isSome_some]
    · rw [valV_neg e, decide_eq_false e, Bool.false_or]; exact valV_any k r
theorem length_putK (kvs : List (κ × V)) (k : κ) (v : V) : (putK kvs k v).length ≤ kvs.length + 1 := by
  unfold putK
  split
  · rw [List.length_map]; omega
  · rw [List.length_append, List.length_cons, List.length_nil]; omega
theorem putK_new {kvs : List (κ × V)} {k : κ} (v : V) (h : valV kvs k = none) : putK kvs k v = kvs ++ [(k, v)] := by
  unfold putK
  rw [valV_any, h]
  exact if_neg (by decide)

theorem RelO.isSome_eq {o : Option V} {u : Option Value} (r : RelO o u) : o.isSome = u.isSome := by
  cases o with
  | none => cases u with
    | none => rfl
    | some _ => exact (show False from r).elim
  | some _ => cases u with
    | none => exact (show False from r).elim
    | some _ => rfl
end


/-! ### a tracked dict, its keys ints and texts or tuples of these -/
section
variable {P : Program} {w : World} {H : Hp} {h : Heap} {a : Addr}
end

section
variable {X : Cx} {pins : List (Addr × Obj)} {σ : St} {H : Hp} {s : Shared} {a : Addr} {y v : V} {u r : Value} {o : Option V} {A : Around} {E : Value → Shared → Prop}

theorem Inv.big (I : Inv X pins σ H s) : sysModules < s.heap.objs.size := by
  have h : mainGlobals < s.heap.objs.size := (I.mod.glob.keeps I.bk).lt
  exact Nat.lt_trans (by decide) h

/-- a dict's object is replaced -/
theorem d_write {h' : Heap} {t' : Nat} {ob : HO} (I : Inv X pins σ H s) (mu : Mut (H a)) (hs : Heap.SameBut a s.heap h') (he : ∃ q, h'.get? a = some q) (new : ObjOk X.prog X.w (upd H a ob) h' a ob) :
    Inv X pins σ (upd H a ob) { s with heap := h', toks := t' } :=
  I.write (x := a) (e := a) mu (.inl rfl) (fun b q hb z => (hs.2 b hb).trans z) he new
end

section
variable {X : Cx} {pins : List (Addr × Obj)} {σ : St} {H : Hp} {s : Shared} {a : Addr} {kvs : List (Key × V)} {k : Key} {u : Value} {A : Around} {E : Value → Shared → Prop}
end


/-! ### readings and rules -/
/-- the element of a subscription, not a slice -/
def NoSl (i : Expr) : Prop := ∀ ov iv, subscripted i false ov iv = operate [ov, iv] (getItem ov iv)
theorem subD_of {prog : Program} {w : World} {A : Around} {E : Value → Shared → Prop} {s : Shared} {env : Env} {value slice : Expr} {pos : Pos} {T id : String} {Q : Value → Shared → Prop}
    (hl : typeLookup (.type T) "__getitem__" = pure (some (.builtin id))) (hs : NoSl slice)
    (h : wpAny (model prog w) A (eval value env) (fun o s₁ => wpAny (model prog w) A (eval slice env) (fun i s₂ => s₂.TypeIs o T ∧ wpAny (model prog w) A (getItem o i) Q E s₂) E s₁) E s) :
    wpAny (model prog w) A (eval (.Subscript value slice pos) env) Q E s := by
  refine Subscript_ (wpAny_mono h (fun o s₁ h₁ => wpAny_mono h₁ (fun i s₂ h₂ => ?_) fun _ _ x => x) fun _ _ x => x)
  obtain ⟨hT, h₂⟩ := h₂
  unfold subscriptTail
  refine wpAny_bind ?_
  rw [getitemInPython_of_ne hT.not_modules]
  refine wpAny_bind (wpAny_specialOf hT hl ?_)
  have fin : wpAny (model prog w) A (subscripted slice false o i) (fun r s₃ => wpAny (model prog w) A (letTemporaryGo value o r >>= fun _ => pure r) Q E s₃) E s₂ := by
    rw [hs o i]
    exact wpAny_operating (wpAny_mono h₂ (fun r s₃ h₃ => wpAny_bind (wpAny_letTemporaryGo (wpAny_pure h₃))) fun _ _ x => x)
  first
    | exact wpAny_pure (wpAny_bind fin)
    | exact wpAny_bind (wpAny_pure (wpAny_bind fin))
    | exact wpAny_bind fin

section
variable {X : Cx} {o i e value : Expr} {pos pos' tpos : Pos} {td ty tv : TE}
end


/-! ### displays -/
section
variable {X : Cx} {pos : Pos}
end

/-! ### methods -/
section
variable {X : Cx} {pins : List (Addr × Obj)} {σ : St} {H : Hp} {s : Shared} {a : Addr} {y d : V} {u r : Value} {o : Option V} {A : Around} {E : Value → Shared → Prop}
end

section
variable {X : Cx} {o e f : Expr} {apos cpos : Pos} {td ty tx : TE}
end

/-! ### dict(d): a copy -/
section
variable {X : Cx} {pins : List (Addr × Obj)} {σ : St} {H : Hp} {s : Shared} {a : Addr} {kvs : List (Key × V)} {A : Around} {E : Value → Shared → Prop}
end


section
variable {X : Cx} {pins : List (Addr × Obj)} {σ : St} {H : Hp} {s : Shared} {a : Addr} {y : V} {u : Value} {A : Around} {E : Value → Shared → Prop}
end
end L2
/-! ### my own rules over the layer -/
namespace L2
open PySem PySem.Spec PyProof.Rows
section
variable {X : Cx} {pos : Pos} {a b c d : Expr} {ta tb tc td : TE}
/-- isinstance(x, T), T a built-in type -/
theorem call_isi : CallR X (.builtin "isinstance") (fun xs H Q => ∃ x n t b, xs = [x, .ty n] ∧ TyOf X.K H x t ∧ PySem.W.kitOne X.K t (.type n) = some b ∧ Q (.bl b) H) := by
  intro pins s σ H xs us Q I r h
  obtain ⟨x, n, t, b, rfl, ty, e, q⟩ := h
  obtain ⟨u, w', rfl, ru, rw'⟩ := vals2 r
  obtain rfl : w' = Value.type n := rw'
  exact isinst_ok I ru ty e fun tk => ⟨.bl b, H, I.tok tk, rfl, q⟩
end
/-! ### what isinstance tells of built-in types -/
section
open PySem.W
variable {K : Frag}
theorem kit_same {t : String} : kitOne K (.type t) (.type t) = some true := by
  unfold kitOne
  rw [if_pos (by simp)]
theorem kit_of {t c : String} {b : Bool} (h1 : (Value.type t == Value.type c) = false) (h2 : kitMeta c = true) (h3 : (fastBuiltinMro t).map (·.contains (Value.type c)) = some b) : kitOne K (.type t) (.type c) = some b := by
  unfold kitOne
  rw [if_neg (by rw [h1]; decide)]
  unfold kitCls
  show (if kitMeta c = true then subIn K (.type t) (.type c) else none) = some b
  rw [if_pos h2]
  exact h3
theorem kit_int_bool : kitOne K (.type "int") (.type "bool") = some false := kit_of (by decide +kernel) (by decide +kernel) (by decide +kernel)
theorem kit_bool_int : kitOne K (.type "bool") (.type "int") = some true := kit_of (by decide +kernel) (by decide +kernel) (by decide +kernel)
end
/-! ### tests -/
theorem iteD {c A B : Prop} [Decidable c] (h1 : c → A) (h2 : ¬ c → B) : if decide c = true then A else B := by
  by_cases h : c
  · rw [if_pos (decide_eq_true h)]; exact h1 h
  · rw [if_neg (by rw [decide_eq_false h]; decide)]; exact h2 h
theorem iteDn {c A B : Prop} [Decidable c] (h1 : ¬ c → A) (h2 : c → B) : if (!decide c) = true then A else B := by
  by_cases h : c
  · rw [if_neg (by rw [decide_eq_true h]; decide)]; exact h2 h
  · rw [if_pos (by rw [decide_eq_false h]; rfl)]; exact h1 h
theorem iteE {A B : Prop} {i j : Int} (h1 : i = j → A) (h2 : i ≠ j → B) : if decide (V.int i = V.int j) = true then A else B := iteD (fun h => h1 (V.int.inj h)) fun h => h2 fun e => h (congrArg V.int e)
theorem iteNE {A B : Prop} {i j : Int} (h1 : i ≠ j → A) (h2 : i = j → B) : if (!decide (V.int i = V.int j)) = true then A else B := iteDn (fun h => h1 fun e => h (congrArg V.int e)) fun h => h2 (V.int.inj h)
/-! ### heaps -/
theorem Same.put {H H1 : Hp} {l : Addr} {o : HO} (s : Same H H1) (n : H l = none) : Same H (upd H1 l o) := fun b u e => by
  rw [upd_ne (ne_of_none e n)]; exact s b u e
theorem Same.new {H : Hp} {l : Addr} {o : HO} (n : H l = none) : Same H (upd H l o) := (Same.refl H).put n
end L2
/-! ### a list comprehension of one clause -/
namespace L2
open PySem PySem.Spec PyProof.Rows
/-- the loop of a comprehension, a turn at a time, whatever its target is -/
theorem comp_loop {prog : Program} {w : World} {A : Around} {R : Result → Shared → Prop} {s : Shared} {elt target iter : Expr} {ifs : List Expr} {scope : Scope} {pos : Pos} {it acc : Value} {env : Env} (I : Nat → Shared → Prop)
    (turn : ∀ n s, I n s → wpAny (model prog w) A (pyNext it) (fun r s₁ => match r with
      | none => R (.ok .next) s₁
      | some v => wpAny (model prog w) A (letOwnedTupleGo target it v) (fun _ s₁' => wpAny (model prog w) A (assign target env v) (fun _ s₂ =>
          wpAny (model prog w) A (forIn ifs true fun c r => if r = true then do let ok ← isTrue c env (eval c env); pure (ForInStep.yield ok) else pure (ForInStep.yield r)) (fun ok s₃ =>
            if ok = true then wpAny (model prog w) A (eval elt env) (fun x s₄ =>
              wpAny (model prog w) A (call (.builtin "list.append") [acc, x]) (fun _ s₅ => ∃ m, m < n ∧ I m s₅) (notedBy (model prog w) A env fun e s' => R (.error e) s') s₄) (notedBy (model prog w) A env fun e s' => R (.error e) s') s₃
            else ∃ m, m < n ∧ I m s₃) (notedBy (model prog w) A env fun e s' => R (.error e) s') s₂) (notedBy (model prog w) A env fun e s' => R (.error e) s') s₁') (notedBy (model prog w) A env fun e s' => R (.error e) s') s₁) (notedBy (model prog w) A env fun e s' => R (.error e) s') s)
    (n : Nat) (h : I n s) :
    codeAny (model prog w) A (.compLoop (.ListComp elt [⟨target, iter, ifs, 0⟩] scope pos) 0 it acc env) R s := by
  refine codeAny_loop rfl I (fun n s hI => ?_) n h
  show wpAny _ A ((compTurn (.ListComp elt [⟨target, iter, ifs, 0⟩] scope pos) 0 it acc env).onRaise (fun x => do noteFrame x env; theTreesLotGoes x)) _ _ s
  refine wpAny_noted ?_
  rw [compTurn_list]
  refine wpAny_bind (wpAny_standAt (wpAny_bind (wpAny_mono (turn n s hI) (fun r s₁ h₁ => ?_) fun _ _ h' => h')))
  cases r with
  | none => exact wpAny_pure h₁
  | some v =>
    refine wpAny_bind (wpAny_mono h₁ (fun _ s₁' h₁' => wpAny_bind (wpAny_mono h₁' (fun _ s₂ h₂ => wpAny_bind (wpAny_mono h₂ (fun ok s₃ h₃ => ?_) fun _ _ h' => h')) fun _ _ h' => h')) fun _ _ h' => h')
    cases ok with
    | false => exact wpAny_pure ⟨rfl, h₃⟩
    | true =>
      exact wpAny_bind (wpAny_bind (wpAny_mono h₃ (fun x s₄ h₄ => wpAny_bind (wpAny_mono h₄ (fun _ s₅ h₅ => wpAny_pure (wpAny_pure ⟨rfl, h₅⟩)) fun _ _ h' => h')) fun _ _ h' => h'))
/-- the cells that a comprehension sees -/
def clOf (env : Env) : List (Str × NameKind) → List (Str × Addr) → List (Str × Addr)
  | [], cs => cs
  | (n, k) :: r, cs => clOf env r (if k = .free then (n, (env.cells.lookup n).getD 0) :: cs else cs)
theorem clOf_run {env : Env} : ∀ (ns : List (Str × NameKind)) (cs : List (Str × Addr)), (∀ y ∈ ns, y.2 = .free → ∃ c, env.cells.lookup y.1 = some c) →
    (forIn ns cs fun (x : Str × NameKind) (r : List (Str × Addr)) => (if (x.2 == .free) = true then do let c ← cellOf env x.1; pure (ForInStep.yield ((x.1, c) :: r)) else pure (ForInStep.yield r) : Sem (ForInStep (List (Str × Addr))))) = (pure (clOf env ns cs) : Sem _)
  | [], cs, _ => rfl
  | (n, k) :: r, cs, h => by
    have hr := fun y hy => h y (List.mem_cons_of_mem _ hy)
    by_cases hk : k = .free
    · obtain ⟨c, hc⟩ := h (n, k) List.mem_cons_self hk
      subst hk
      rw [List.forIn_cons]
      have e : cellOf env n = pure c := by unfold cellOf; rw [hc]
      simp only [beq_self_eq_true, if_true, e, pure_bind]
      rw [clOf_run r _ hr]
      show _ = pure (clOf env r (if NameKind.free = NameKind.free then (n, (env.cells.lookup n).getD 0) :: cs else cs))
      rw [if_pos rfl, show env.cells.lookup n = some c from hc]
      rfl
    · have hb : (k == NameKind.free) = false := by simpa using hk
      rw [List.forIn_cons]
      simp only [hb, Bool.false_eq_true, if_false, pure_bind]
      rw [clOf_run r _ hr]
      show _ = pure (clOf env r (if k = NameKind.free then (n, (env.cells.lookup n).getD 0) :: cs else cs))
      rw [if_neg hk]
theorem closure_is {env : Env} {scope : Scope} (h : ∀ y ∈ scope.names, y.2 = .free → ∃ c, env.cells.lookup y.1 = some c) : closureFor scope env = pure (clOf env scope.names []) := by
  unfold closureFor
  have e := clOf_run scope.names [] h
  simp only [bind_pure] at e ⊢
  exact e
theorem clOf_lookup {env : Env} {x : Str} {c : Addr} : ∀ (ns : List (Str × NameKind)) (cs : List (Str × Addr)), (∀ y ∈ ns, y.2 = .free → ∃ c, env.cells.lookup y.1 = some c) → (∀ x c, cs.lookup x = some c → env.cells.lookup x = some c) →
    (clOf env ns cs).lookup x = some c → env.cells.lookup x = some c
  | [], cs, _, hc, e => hc x c e
  | (n, k) :: r, cs, h, hc, e => by
    unfold clOf at e
    refine clOf_lookup r _ (fun y hy => h y (List.mem_cons_of_mem _ hy)) (fun x' c' e' => ?_) e
    by_cases hk : k = .free
    · rw [if_pos hk] at e'
      obtain ⟨c0, h0⟩ := h (n, k) List.mem_cons_self hk
      rw [h0] at e'
      rw [List.lookup_cons] at e'
      by_cases q : x' == n
      · rw [q] at e'
        cases e'
        rw [beq_iff_eq.mp q]
        exact h0
      · have q' : (x' == n) = false := by simpa using q
        rw [q'] at e'
        exact hc x' c' e'
    · rw [if_neg hk] at e'
      exact hc x' c' e'
theorem clOf_has0 {env : Env} {x : Str} : ∀ (ns : List (Str × NameKind)) (cs : List (Str × Addr)), (∃ c, cs.lookup x = some c) → ∃ c, (clOf env ns cs).lookup x = some c
  | [], cs, h => h
  | (n, k) :: r, cs, h => by
    unfold clOf
    refine clOf_has0 r _ ?_
    by_cases hk : k = .free
    · rw [if_pos hk, List.lookup_cons]
      by_cases q : x == n
      · rw [q]; exact ⟨_, rfl⟩
      · have q' : (x == n) = false := by simpa using q
        rw [q']; exact h
    · rw [if_neg hk]; exact h
theorem clOf_has {env : Env} {x : Str} : ∀ (ns : List (Str × NameKind)) (cs : List (Str × Addr)), (x, NameKind.free) ∈ ns → ∃ c, (clOf env ns cs).lookup x = some c
  | (n, k) :: r, cs, h => by
    unfold clOf
    rcases List.mem_cons.mp h with e | e
    · cases e
      rw [if_pos rfl]
      exact clOf_has0 r _ ⟨_, by rw [List.lookup_cons, beq_self_eq_true]⟩
    · exact clOf_has r _ e

/-- the context of a comprehension's block -/
def Cx.comp (X : Cx) (scope : Scope) (C : Addr) (N : List Str) (s₀ : Shared) (H₀ : Hp) (ex : List Addr) (E : Value → Shared → Prop) : Cx where
  prog := X.prog
  w := X.w
  K := X.K
  mg := X.mg
  base := X.base
  A := X.A
  N := N
  s₀ := s₀
  H₀ := H₀
  env := compEnvC scope (clOf X.env scope.names []) C X.env
  outer := X.stack
  stack := X.stack
  ex := ex
  fn := fun _ => false
  calm := X.calm
  pn := []
  xe := E
/-- the tests of a clause -/
def PIfs (X : Cx) (ifs : List Expr) (t : TT) : Prop :=
  ∀ (pins : List (Addr × Obj)) (s : Shared) (σ : St) (H : Hp) (Q : Bool → Hp → Prop), Inv X pins σ H s → t σ H Q →
    wpAny (model X.prog X.w) X.A (forIn ifs true fun c r => if r = true then do let ok ← isTrue c X.env (eval c X.env); pure (ForInStep.yield ok) else pure (ForInStep.yield r)) (TP X pins σ Q) X.xe s
def tYes : TT := fun _ H Q => Q true H
theorem pifs_nil {X : Cx} : PIfs X [] tYes := fun _ _ _ H _ I h => wpAny_tests_nil ⟨H, I, h⟩
theorem pifs_one {X : Cx} {c : Expr} {t : TT} (h : PT X c t) : PIfs X [c] t := fun pins s σ H Q I q => wpAny_tests_one (h pins s σ H Q I q)
/-- what the block sees of the frame: its own names unset, then the frame's slots j -/
def capt (own : Nat) (js : List Nat) (σ : St) : St := List.replicate own none ++ js.map fun j => (σ[j]?).getD none
/-- the block from its start on: W the word by the turn and a measure -/
def CompW (J : It) (own : Nat) (js : List Nat) (g : TG) (ti : TT) (te : TE) (σ : St) (H1 : Hp) (acc : Addr) (Q : VK) : Prop :=
  ∃ W : Nat → Nat → Hp → Prop, (∃ m, W 0 m (upd H1 acc (.lst []))) ∧ ∀ i m H2, W i m H2 →
    (J.stop i H2 ∧ Q (.ref acc) H2) ∨ (J.go i H2 ∧ ∀ x H3, J.yld i H2 x H3 → g x (capt own js σ) H3 fun σ4 H4 => ti σ4 H4 fun b H5 =>
      if b = true then te σ4 H5 fun y H6 => rAppend (.ref acc) [y] H6 fun _ H7 => ∃ m', m' < m ∧ W (i + 1) m' H7 else ∃ m', m' < m ∧ W (i + 1) m' H5)
def tComp (own : Nat) (js : List Nat) (wi : TI) (g : TG) (ti : TT) (te : TE) : TE := fun σ H Q => wi σ H fun J H1 => ∀ acc, H1 acc = none → CompW J own js g ti te σ H1 acc Q
end L2
namespace L2
open PySem PySem.Spec PyProof.Rows
theorem thnF {α : Type} {t : Sem α} {Q Q' : α → Shared → Prop} {M : Model} {A : Around} {E : Value → Shared → Prop} {s : Shared} (h : wpAny M A t Q (fun _ _ => False) s) (hQ : ∀ a s, Q a s → Q' a s) : wpAny M A t Q' E s := wpAny_mono h hQ fun _ _ f => f.elim
theorem relabel_kind {scope : Scope} {env : Env} {x : Str} : ∀ {names : List (Str × NameKind)}, ((names.map fun (n, k) => if (k == NameKind.free && env.scope.kind == .function && env.kindOf n == some .cell) then (n, NameKind.cell) else (n, k)).lookup x = some .cell ∨
    (names.map fun (n, k) => if (k == NameKind.free && env.scope.kind == .function && env.kindOf n == some .cell) then (n, NameKind.cell) else (n, k)).lookup x = some .free) → (∀ y ∈ names, y.2 ≠ .cell) → (x, NameKind.free) ∈ names
  | [], h, _ => by simp at h
  | (n, k) :: r, h, hc => by
    have hr : ∀ y ∈ r, y.2 ≠ .cell := fun y hy => hc y (List.mem_cons_of_mem _ hy)
    have h0 : k ≠ .cell := hc (n, k) List.mem_cons_self
    rw [List.map_cons, List.lookup_cons] at h
    by_cases hb : (k == NameKind.free && env.scope.kind == .function && env.kindOf n == some .cell) = true
    · rw [if_pos hb] at h
      dsimp only at h
      by_cases q : x == n
      · have hk : k = .free := by simp only [Bool.and_eq_true, beq_iff_eq] at hb; exact hb.1.1
        rw [beq_iff_eq.mp q, hk]
        exact List.mem_cons_self
      · have q' : (x == n) = false := by simpa using q
        rw [q'] at h
        exact List.mem_cons_of_mem _ (relabel_kind (scope := scope) h hr)
    · rw [if_neg hb] at h
      dsimp only at h
      by_cases q : x == n
      · rw [q] at h
        dsimp only at h
        have hk : k = .free := by
          rcases h with h | h
          · exact absurd (Option.some.inj h) h0
          · exact Option.some.inj h
        rw [beq_iff_eq.mp q, hk]
        exact List.mem_cons_self
      · have q' : (x == n) = false := by simpa using q
        rw [q'] at h
        exact List.mem_cons_of_mem _ (relabel_kind (scope := scope) h hr)
/-- the target stores into the block's own slots alone -/
def OwnG (own : Nat) (g : TG) : Prop := ∀ v σ H (Q : St → Hp → Prop), g v σ H Q → g v σ H fun σ' H' => Q σ' H' ∧ σ'.length = σ.length ∧ ∀ i, own ≤ i → σ'[i]? = σ[i]?
theorem ownG_name {i own : Nat} (h : i < own) : OwnG own (gName i) := fun v σ H Q q => ⟨q, List.length_set .., fun j hj => by rw [List.getElem?_set_ne (by omega)]⟩
theorem capt_length (own : Nat) (js : List Nat) (σ : St) : (capt own js σ).length = own + js.length := by simp [capt]
theorem capt_some {own : Nat} {js : List Nat} {σ : St} {i : Nat} {v : V} (h : (capt own js σ)[i]? = some (some v)) : own ≤ i ∧ ∃ j, js[i - own]? = some j ∧ σ[j]? = some (some v) := by
  unfold capt at h
  by_cases hi : i < own
  · rw [List.getElem?_append_left (by simpa using hi), List.getElem?_replicate, if_pos hi] at h
    cases h
  · rw [List.getElem?_append_right (by simpa using hi), List.length_replicate, List.getElem?_map] at h
    refine ⟨by omega, ?_⟩
    cases e : js[i - own]? with
    | none => rw [e] at h; cases h
    | some j =>
      rw [e] at h
      refine ⟨j, rfl, ?_⟩
      have h' : (σ[j]?).getD none = some v := Option.some.inj h
      cases e2 : σ[j]? with
      | none => rw [e2] at h'; cases h'
      | some o => rw [e2] at h'; exact congrArg some h'
theorem comp_core {X : Cx} {elt tg iter : Expr} {ifs : List Expr} {scope : Scope} {pos ps : Pos} {N : List Str} {own : Nat} {js : List Nat} {wi : TI} {g : TG} {ti : TT} {te : TE} (hc : X.calm = true)
    (hcell : ∀ y ∈ scope.names, y.2 ≠ .cell) (hkind : scope.kind = .function) (hnames : ∀ y ∈ scope.names, y.2 = .local → scope.names.lookup y.1 = some .local)
    (hfree : ∀ y ∈ scope.names, y.2 = .free → X.env.kindOf y.1 = some .cell ∨ X.env.kindOf y.1 = some .free) (hlen : N.length = own + js.length)
    (hcap : ∀ (i j : Nat) (x : Str), js[i]? = some j → N[own + i]? = some x → X.N[j]? = some x ∧ (x, NameKind.free) ∈ scope.names ∧ (X.env.kindOf x = some .cell ∨ X.env.kindOf x = some .free) ∧ ((relabel scope X.env).names.lookup x = some .cell ∨ (relabel scope X.env).names.lookup x = some .free))
    (hi : PI X tg iter wi) (hg : ∀ C s₀ H₀ ex, PG (X.comp scope C N s₀ H₀ ex fun _ _ => False) tg g) (ho : OwnG own g) (ht : ∀ C s₀ H₀ ex, PIfs (X.comp scope C N s₀ H₀ ex fun _ _ => False) ifs ti) (he : ∀ C s₀ H₀ ex, PE (X.comp scope C N s₀ H₀ ex fun _ _ => False) elt te)
    {pins : List (Addr × Obj)} {s : Shared} {σ : St} {H : Hp} {Q : VK} {use : Option (Value → Sem Unit)} {RQ : Value → Shared → Prop} (I : Inv X pins σ H s) (h : tComp own js wi g ti te σ H Q)
    (fin : ∀ (acc C : Addr) (H3 : Hp) (s4 : Shared) (m : Str → Option Value), Inv X pins σ H3 s4 → s4.heap.Ns C m → H3 C = none → C ≠ X.env.locals → C ∉ X.fs → X.s₀.heap.objs.size ≤ C → (∀ x c, X.env.cells.lookup x = some c → c ≠ C) → (∀ p ∈ X.pn ++ pins, p.1 ≠ C) →
      Q (.ref acc) H3 → compPost (model X.prog X.w) X.A X.xe use RQ (.ref acc) C (.ok .next) s4)
    (hs : ∀ x, foldedSetIterable iter X.env x = pure x := by intro _; rfl) :
    wpAny (model X.prog X.w) X.A (comprehension (.ListComp elt [⟨tg, iter, ifs, 0⟩] scope pos) scope X.env ps (newList []) false (eval iter X.env) use) RQ X.xe s := by
  have hcl : ∀ y ∈ scope.names, y.2 = .free → ∃ c, X.env.cells.lookup y.1 = some c := fun y hy hf => I.ok.has y.1 (hfree y hy hf)
  refine wpAny_comprehension_free (use := use) rfl hs (closure_is hcl) hkind hnames (thn (hi pins s σ H _ I h) fun v s1 h1 => thn h1 fun itv s2 h2 => ?_)
  obtain ⟨it, fp, tn, J, H2, e, I2, T, st2, f2, q⟩ := h2
  subst e
  have nf : H2 s2.heap.objs.size = none := I2.hok.fresh (Nat.le_refl _)
  obtain ⟨W, ⟨m0, w0⟩, turn⟩ := q s2.heap.objs.size nf
  refine wpAny_newObj_type (wpAny_newFunctionEnv hcell (by intro y hy; simp at hy) (fun h₁ hns₁ hsb₁ => ?_) hkind)
  dsimp only at hns₁ hsb₁ ⊢
  generalize hP2 : s2.heap.push { cls := .type "list", dict := none, data := .seq ([] : List Value).toArray } = P2 at hns₁ hsb₁ ⊢
  have hC : P2.objs.size = s2.heap.objs.size + 1 := by rw [← hP2, Heap.size_push]
  have hC1 : s2.heap.objs.size < P2.objs.size := by rw [hC]; exact Nat.lt_succ_self _
  have kp : ∀ b o, s2.heap.get? b = some o → h₁.get? b = some o := fun b o e => hsb₁.extBut b o (Nat.ne_of_lt (Nat.lt_trans (Heap.lt_size e) hC1)) (Heap.get?_push_of_some _ (hP2 ▸ Heap.get?_push_of_some _ e))
  have hacc : h₁.get? s2.heap.objs.size = some { cls := .type "list", dict := none, data := .seq ([] : List Value).toArray } := hsb₁.extBut _ _ (Nat.ne_of_lt hC1) (Heap.get?_push_of_some _ (hP2 ▸ Heap.get?_push_size _ rfl))
  have lkc : ∀ x c, (clOf X.env scope.names []).lookup x = some c → X.env.cells.lookup x = some c := fun x c e => clOf_lookup scope.names [] hcl (fun _ _ z => by simp at z) e
  have cne : ∀ x c, (clOf X.env scope.names []).lookup x = some c → c < s2.heap.objs.size ∧ H2 c = none := fun x c e => by
    obtain ⟨v, o, ho, hd⟩ := I2.cell x c (lkc x c e)
    exact ⟨Heap.lt_size ho, I2.freeC x c (lkc x c e)⟩
  have fpl : ∀ b ∈ fp, b < s2.heap.objs.size := fun b hb => by
    obtain ⟨o, e, _⟩ := T.obj 0 _ st2 b hb
    exact Heap.lt_size e
  -- the block's invariant, as it starts
  have hX : (X.comp scope P2.objs.size N s2 H2 fp fun _ _ => False).Ok := {
    mod := I.ok.mod
    kind := hkind
    glob := I.ok.glob
    blt := I.ok.blt
    above := Nat.le_of_lt hC1
    inj := fun x y c a b => I.ok.inj x y c (lkc x c a) (lkc y c b)
    has := fun x hx => clOf_has scope.names [] (relabel_kind (scope := scope) (env := X.env) hx hcell)
    cab := fun x c a _ => by cases (show false = true from a)
    hd := I.ok.hd
    frames := I.ok.frames
    stk := .inl rfl
    exf := fun b hb => ⟨Nat.ne_of_lt (Nat.lt_trans (fpl b hb) hC1), fun x c a => (f2 b hb).2.2.2.2.1 x c (lkc x c a)⟩
    bs := I2.bs
    bsz := Nat.le_trans I.ok.bsz I2.sz
    noex := fun b o e hb => by
      rcases (f2 b hb).2.2.2.1 with z | z
      · exact I.ok.noex b o e z
      · exact absurd (Nat.lt_of_lt_of_le (Nat.lt_of_lt_of_le (Heap.lt_size e) I.ok.bsz) z) (Nat.lt_irrefl _)
    exfs := fun b hb z => by
      rcases List.mem_cons.mp (I2.stkSub b z) with z | z
      · exact (f2 b hb).2.1 z
      · exact (f2 b hb).2.2.1 z
    funs := I2.stack
    frf := I2.stkFree }
  have I3 : ∀ tk, Inv (X.comp scope P2.objs.size N s2 H2 fp fun _ _ => False) [] (capt own js σ) (upd H2 s2.heap.objs.size (.lst [])) { s2 with heap := h₁, toks := tk } := fun tk => {
    ok := hX
    os := rfl
    bare := I2.bare
    base := Un.laid kp (Nat.le_refl _) nf
    loc := ⟨_, hns₁, fun i x v a b c => by
      obtain ⟨hio, j, hj, hv⟩ := capt_some b
      obtain ⟨h3, h4, h5, h6⟩ := hcap (i - own) j x hj (by rw [show own + (i - own) = i by omega]; exact a)
      obtain ⟨m, hn, hl⟩ := I2.loc
      obtain ⟨u, ru, lk⟩ := hl j x v h3 hv (.inr h5)
      refine ⟨u, ru, .inr ⟨h6, ?_⟩⟩
      rcases lk with ⟨z, _⟩ | ⟨_, c0, z1, z2⟩
      · rcases h5 with h5 | h5 <;> (rw [h5] at z; cases z)
      · obtain ⟨c1, hc1⟩ := clOf_has (env := X.env) scope.names [] h4
        have := lkc x c1 hc1
        rw [z1] at this
        cases this
        obtain ⟨o, ho, hd⟩ := z2
        exact ⟨c0, hc1, o, kp _ _ ho, hd⟩⟩
    cell := fun x c a => by
      obtain ⟨v, o, ho, hd⟩ := I2.cell x c (lkc x c a)
      exact ⟨v, o, kp _ _ ho, hd⟩
    free := by
      show upd H2 _ _ P2.objs.size = none
      rw [upd_ne (Nat.ne_of_gt hC1)]
      exact I2.hok.fresh (Nat.le_of_lt hC1)
    freeC := fun x c a => by
      rw [upd_ne (Nat.ne_of_lt (cne x c a).1)]
      exact (cne x c a).2
    pin := fun p hp => absurd (show p ∈ ([] : List (Addr × Obj)) from hp) (by simp)
    hok := I2.hok.laid kp (Nat.le_refl _) ⟨Nat.zero_le _, [], 0, .nil, hacc⟩
    len := by rw [capt_length]; exact hlen.symm }
  have fr0 : ∀ b ∈ fp, upd H2 s2.heap.objs.size (.lst []) b = none := fun b hb => by
    rw [upd_ne (Nat.ne_of_lt (fpl b hb))]
    exact (f2 b hb).1
  have st3 : tn 0 h₁ := T.keep 0 _ _ st2 fun b _ o e => kp b o e
  have stat : ∀ {H' : Hp}, (∀ b ∈ fp, H' b = none) → ∀ b ∈ fp, FpOk (X.comp scope P2.objs.size N s2 H2 fp fun _ _ => False) [] H' b := fun hn b hb =>
    ⟨hn b hb, (hX.exf b hb).1, hX.exfs b hb, .inl hb, fun x c a => (hX.exf b hb).2 x c a, fun p hp => absurd (show p ∈ ([] : List (Addr × Obj)) from hp) (by simp)⟩
  have loop : ∀ s₃ : Shared, s₃ = { s2 with heap := h₁, toks := s2.toks + ([] : List (Str × Value)).length } →
      codeAny (model X.prog X.w) X.A (.compLoop (.ListComp elt [⟨tg, iter, ifs, 0⟩] scope pos) 0 (.ref it) (.ref s2.heap.objs.size) (compEnvC scope (clOf X.env scope.names []) P2.objs.size X.env))
        (compPost (model X.prog X.w) X.A X.xe use RQ (.ref s2.heap.objs.size) P2.objs.size) s₃ := by
    rintro s₃ rfl
    refine comp_loop (fun n s' => ∃ i H', Inv (X.comp scope P2.objs.size N s2 H2 fp fun _ _ => False) [] (capt own js σ) H' s' ∧ tn i s'.heap ∧ (∀ b ∈ fp, H' b = none) ∧ W i n H') ?_ m0 ⟨0, _, I3 _, st3, fr0, w0⟩
    rintro n s3 ⟨i, H3, J3, t3, fr3, w3⟩
    rcases turn i n H3 w3 with ⟨stop, qd⟩ | ⟨go, step⟩
    · refine thnF (T.done (X.comp scope P2.objs.size N s2 H2 fp fun _ _ => False) rfl rfl rfl hc i [] s3 _ H3 _ J3 (stat fr3) t3 stop) fun r s4 ⟨hr, J4⟩ => ?_
      subst hr
      obtain ⟨m, hn, _⟩ := J4.loc
      have B : Un (frs X.stack) fp H2 H3 s2.heap s4.heap := J4.base
      have I5 : Inv X pins σ H3 s4 := I2.call' J4.os B J4.hok J4.bare fun b hb => by
        obtain ⟨a1, a2, a3, a4, a5, a6⟩ := f2 b hb
        exact ⟨a4, a2, a5, a6⟩
      have hp := I2.fpOk (H' := H3) (b := P2.objs.size) (Nat.le_of_lt hC1) J4.free
      obtain ⟨a1, a2, a3, a4, a5, a6⟩ := hp
      exact fin s2.heap.objs.size P2.objs.size H3 s4 m I5 hn a1 a2 a3 (Nat.le_trans I2.sz (Nat.le_of_lt hC1)) a5 a6 qd
    · refine thnF (T.item (X.comp scope P2.objs.size N s2 H2 fp fun _ _ => False) rfl rfl rfl hc i [] s3 _ H3 _ J3 (stat fr3) t3 go) fun r s4 ⟨u, hr, h4⟩ => ?_
      subst hr
      refine thnF h4 fun _ s5 ⟨x, H5, J5, r5, y5, t5, fr5⟩ => ?_
      have J5' := J5.pinned (stat fr5) (T.obj _ _ t5)
      refine thnF (hg _ _ _ _ _ s5 _ H5 x u _ J5' r5 (ho _ _ _ _ (step x H5 y5))) fun _ s6 ⟨σ6, H6, J6, q6, hl6, ho6⟩ => ?_
      have again : ∀ {s7 : Shared} {H7 : Hp}, Inv (X.comp scope P2.objs.size N s2 H2 fp fun _ _ => False) ([] ++ pinsAt fp s5.heap) σ6 H7 s7 → (∃ m', m' < n ∧ W (i + 1) m' H7) →
          ∃ m, m < n ∧ ∃ i H', Inv (X.comp scope P2.objs.size N s2 H2 fp fun _ _ => False) [] (capt own js σ) H' s7 ∧ tn i s7.heap ∧ (∀ b ∈ fp, H' b = none) ∧ W i m H' := fun {s7 H7} J7 z => by
        obtain ⟨m', hm, w7⟩ := z
        refine ⟨m', hm, i + 1, H7, J7.unpinned.weak (by rw [hl6]) (fun k v z => ?_), T.keep _ _ _ t5 fun b hb o e => (J7.pin (b, o) (List.mem_append_right _ (List.mem_append_right _ (mem_pinsAt hb e)))).1, fun b hb => ?_, w7⟩
        · rw [ho6 k (capt_some z).1]
          exact z
        · obtain ⟨o, e, d⟩ := T.obj _ _ t5 b hb
          exact (J7.pin (b, o) (List.mem_append_right _ (List.mem_append_right _ (mem_pinsAt hb e)))).2.1
      refine thnF (ht _ _ _ _ _ s6 σ6 H6 _ J6 q6) fun ok s7 ⟨H7, J7, q7⟩ => ?_
      cases ok with
      | false => exact again J7 q7
      | true =>
        refine thnF (he _ _ _ _ _ s7 σ6 H7 _ J7 q7) fun y s8 ⟨yv, H8, J8, r8, q8⟩ => ?_
        exact thnF (mt_append _ s8 σ6 H8 (.ref s2.heap.objs.size) [yv] (.ref s2.heap.objs.size) [y] _ J8 rfl (.cons r8 .nil) q8) fun _ s9 ⟨_, H9, J9, _, q9⟩ => again J9 q9
  exact codeAny_compStart_list (loop _ rfl) (T.self X.A 0 _ _ _ st3 (loop _ rfl))

/-- [elt for tg in iter if ..] -/
theorem pe_comp {X : Cx} {elt tg iter : Expr} {ifs : List Expr} {scope : Scope} {pos : Pos} {N : List Str} {own : Nat} {js : List Nat} {wi : TI} {g : TG} {ti : TT} {te : TE} (hc : X.calm = true)
    (hcell : ∀ y ∈ scope.names, y.2 ≠ .cell) (hkind : scope.kind = .function) (hnames : ∀ y ∈ scope.names, y.2 = .local → scope.names.lookup y.1 = some .local)
    (hfree : ∀ y ∈ scope.names, y.2 = .free → X.env.kindOf y.1 = some .cell ∨ X.env.kindOf y.1 = some .free) (hlen : N.length = own + js.length)
    (hcap : ∀ (i j : Nat) (x : Str), js[i]? = some j → N[own + i]? = some x → X.N[j]? = some x ∧ (x, NameKind.free) ∈ scope.names ∧ (X.env.kindOf x = some .cell ∨ X.env.kindOf x = some .free) ∧ ((relabel scope X.env).names.lookup x = some .cell ∨ (relabel scope X.env).names.lookup x = some .free))
    (hi : PI X tg iter wi) (hg : ∀ C s₀ H₀ ex, PG (X.comp scope C N s₀ H₀ ex fun _ _ => False) tg g) (ho : OwnG own g) (ht : ∀ C s₀ H₀ ex, PIfs (X.comp scope C N s₀ H₀ ex fun _ _ => False) ifs ti) (he : ∀ C s₀ H₀ ex, PE (X.comp scope C N s₀ H₀ ex fun _ _ => False) elt te)
    (hs : ∀ x, foldedSetIterable iter X.env x = pure x := by intro _; rfl) : PE X (.ListComp elt [⟨tg, iter, ifs, 0⟩] scope pos) (tComp own js wi g ti te) := by
  intro pins s σ H Q I h
  rw [eval_ListComp]
  refine comp_core hc hcell hkind hnames hfree hlen hcap hi hg ho ht he I h (use := none) (fun acc C H3 s4 m I5 hn c1 c2 c3 c4 c5 c6 q => ?_) hs
  refine ⟨m, hn, fun h' sb => ⟨.ref acc, H3, ?_, rfl, q⟩⟩
  exact I5.turned (t' := s4.toks) (it := C) (fun b o hb e => (sb.2 b hb).trans e) c1 c2 (.inr c4) c5 c6
/-- name = [elt for tg in iter if ..] -/
theorem ps_setc {X : Cx} {i : Nat} {y : Str} {py spos : Pos} {elt tg iter : Expr} {ifs : List Expr} {scope : Scope} {pos : Pos} {N : List Str} {own : Nat} {js : List Nat} {wi : TI} {g : TG} {ti : TT} {te : TE} (hN : X.N.Nodup) (hi' : X.N[i]? = some y) (hy : Loc X.env.scope y) (hf : X.fn y = true ∨ X.env.scope.names.lookup y = some .local)
    (hc : X.calm = true)
    (hcell : ∀ y ∈ scope.names, y.2 ≠ .cell) (hkind : scope.kind = .function) (hnames : ∀ y ∈ scope.names, y.2 = .local → scope.names.lookup y.1 = some .local)
    (hfree : ∀ y ∈ scope.names, y.2 = .free → X.env.kindOf y.1 = some .cell ∨ X.env.kindOf y.1 = some .free) (hlen : N.length = own + js.length)
    (hcap : ∀ (i j : Nat) (x : Str), js[i]? = some j → N[own + i]? = some x → X.N[j]? = some x ∧ (x, NameKind.free) ∈ scope.names ∧ (X.env.kindOf x = some .cell ∨ X.env.kindOf x = some .free) ∧ ((relabel scope X.env).names.lookup x = some .cell ∨ (relabel scope X.env).names.lookup x = some .free))
    (hi : PI X tg iter wi) (hg : ∀ C s₀ H₀ ex, PG (X.comp scope C N s₀ H₀ ex fun _ _ => False) tg g) (ho : OwnG own g) (ht : ∀ C s₀ H₀ ex, PIfs (X.comp scope C N s₀ H₀ ex fun _ _ => False) ifs ti) (he : ∀ C s₀ H₀ ex, PE (X.comp scope C N s₀ H₀ ex fun _ _ => False) elt te)
    (hsw : swapsWith (.ListComp elt [⟨tg, iter, ifs, 0⟩] scope pos) (some (.Name y py)) spos.line X.env = pure true := by rfl)
    (hs : ∀ x, foldedSetIterable iter X.env x = pure x := by intro _; rfl) : PS X (.Assign [.Name y py] (.ListComp elt [⟨tg, iter, ifs, 0⟩] scope pos) spos) (tAsg (tComp own js wi g ti te) (gName i)) := by
  intro pins s σ H D I h
  rw [exec_Assign_Name_used _ _ _ _ hsw]
  refine wpAny_bind (wpAny_standAt (wpAny_bind ?_))
  show wpAny _ X.A (do let _ ← comprehension (.ListComp elt [⟨tg, iter, ifs, 0⟩] scope pos) scope X.env _ (newList []) false (eval iter X.env) (some (assign (.Name y py) X.env))) _ _ s
  refine wpAny_bind (wpAny_mono (comp_core hc hcell hkind hnames hfree hlen hcap hi hg ho ht he I h (use := some (assign (.Name y py) X.env)) (RQ := fun _ s' => SP X pins D .next s') (fun acc C H3 s4 m I5 hn c1 c2 c3 c4 c5 c6 q => ?_) hs) (fun _ s' hq => wpAny_pure (wpAny_pure hq)) fun _ _ e => e)
  show wpAny _ X.A (assign (.Name y py) X.env (.ref acc)) _ _ _
  obtain ⟨o, es, ep, ho', hd, hr⟩ := hn
  have I6 : Inv X (pins ++ [(C, o)]) σ H3 s4 := I5.pins_of fun p hp => by
    rcases List.mem_append.mp hp with z | z
    · exact I5.pin p (List.mem_append_right _ z)
    · rw [List.mem_singleton.mp z]
      exact ⟨ho', c1, c2, c3, fun v z => by rw [hd] at z; cases z⟩
  refine wpAny_assign_Name (store_ok I6 hN hi' hy (v := .ref acc) rfl (fun s' I7 => ?_) hf)
  have hp := I7.pin (C, o) (List.mem_append_right _ (List.mem_append_right _ (by simp)))
  refine ⟨m, ⟨o, es, ep, hp.1, hd, hr⟩, fun h' sb => ⟨_, H3, ?_, q⟩⟩
  exact I7.unpinned.turned (t' := s'.toks) (it := C) (fun b o hb e => (sb.2 b hb).trans e) c1 c2 (.inr c4) c5 c6
end L2
/-! ### the comprehension's rules with one check over the written text -/
namespace L2
open PySem PySem.Spec PyProof.Rows
def compOk (XN : List Str) (sc scope : Scope) (own : Nat) (js : List Nat) (N : List Str) : Bool :=
  (scope.names.all fun y => decide (y.2 ≠ .cell) && (decide (y.2 ≠ .local) || decide (scope.names.lookup y.1 = some .local)) && (decide (y.2 ≠ .free) || decide (sc.names.lookup y.1 = some .cell) || decide (sc.names.lookup y.1 = some .free))) &&
    decide (scope.kind = .function) && decide (N.length = own + js.length) &&
    (List.range js.length).all fun i => match js[i]?, N[own + i]? with
      | some j, some x => decide (XN[j]? = some x) && decide (scope.names.lookup x = some .free) && (decide (sc.names.lookup x = some .cell) || decide (sc.names.lookup x = some .free))
      | _, _ => false
theorem lookup_relabel_free {env : Env} : ∀ {names : List (Str × NameKind)} {x : Str}, names.lookup x = some .free →
    (names.map fun (n, k) => if (k == NameKind.free && env.scope.kind == .function && env.kindOf n == some .cell) then (n, NameKind.cell) else (n, k)).lookup x = some .cell ∨
    (names.map fun (n, k) => if (k == NameKind.free && env.scope.kind == .function && env.kindOf n == some .cell) then (n, NameKind.cell) else (n, k)).lookup x = some .free
  | [], _, h => by simp at h
  | (n, k) :: r, x, h => by
    have ih := @lookup_relabel_free env r x
    rw [List.map_cons, List.lookup_cons]
    rw [List.lookup_cons] at h
    by_cases hc : (k == NameKind.free && env.scope.kind == .function && env.kindOf n == some .cell) = true
    · rw [if_pos hc]
      dsimp only
      cases hx : x == n with
      | true => exact .inl rfl
      | false =>
        rw [hx] at h
        exact ih h
    · rw [if_neg hc]
      dsimp only
      cases hx : x == n with
      | true =>
        rw [hx] at h
        exact .inr h
      | false =>
        rw [hx] at h
        exact ih h
structure CompOk (XN : List Str) (sc scope : Scope) (own : Nat) (js : List Nat) (N : List Str) : Prop where
  cell : ∀ y ∈ scope.names, y.2 ≠ .cell
  names : ∀ y ∈ scope.names, y.2 = .local → scope.names.lookup y.1 = some .local
  free : ∀ y ∈ scope.names, y.2 = .free → sc.names.lookup y.1 = some .cell ∨ sc.names.lookup y.1 = some .free
  kind : scope.kind = .function
  len : N.length = own + js.length
  cap : ∀ (i j : Nat) (x : Str), js[i]? = some j → N[own + i]? = some x → XN[j]? = some x ∧ scope.names.lookup x = some .free ∧ (sc.names.lookup x = some .cell ∨ sc.names.lookup x = some .free)
theorem compOk_of {XN : List Str} {sc scope : Scope} {own : Nat} {js : List Nat} {N : List Str} (h : compOk XN sc scope own js N = true) : CompOk XN sc scope own js N := by
  unfold compOk at h
  rw [Bool.and_eq_true, Bool.and_eq_true, Bool.and_eq_true] at h
  obtain ⟨⟨⟨h1, h2⟩, h3⟩, h4⟩ := h
  rw [List.all_eq_true] at h1 h4
  refine ⟨fun y hy => ?_, fun y hy e => ?_, fun y hy e => ?_, of_decide_eq_true h2, of_decide_eq_true h3, fun i j x a b => ?_⟩
  · have := h1 y hy
    rw [Bool.and_eq_true, Bool.and_eq_true] at this
    exact of_decide_eq_true this.1.1
  · have := h1 y hy
    rw [Bool.and_eq_true, Bool.and_eq_true, Bool.or_eq_true] at this
    rcases this.1.2 with z | z
    · exact absurd e (of_decide_eq_true z)
    · exact of_decide_eq_true z
  · have := h1 y hy
    rw [Bool.and_eq_true, Bool.and_eq_true, Bool.or_eq_true, Bool.or_eq_true, Bool.or_eq_true] at this
    rcases this.2 with (z | z) | z
    · exact absurd e (of_decide_eq_true z)
    · exact .inl (of_decide_eq_true z)
    · exact .inr (of_decide_eq_true z)
  · have hi : i < js.length := (List.getElem?_eq_some_iff.mp a).1
    have := h4 i (List.mem_range.mpr hi)
    rw [a, b] at this
    dsimp only at this
    rw [Bool.and_eq_true, Bool.and_eq_true, Bool.or_eq_true] at this
    exact ⟨of_decide_eq_true this.1.1, of_decide_eq_true this.1.2, this.2.imp of_decide_eq_true of_decide_eq_true⟩
section
variable {X : Cx} {XN : List Str} {sc scope : Scope} {elt tg iter : Expr} {ifs : List Expr} {pos : Pos} {N : List Str} {own : Nat} {js : List Nat} {wi : TI} {g : TG} {ti : TT} {te : TE}
theorem pe_compB (hc : X.calm = true) (ok : compOk XN sc scope own js N = true) (hsc : X.env.scope = sc) (hXN : X.N = XN) (hi : PI X tg iter wi) (hg : ∀ C s₀ H₀ ex, PG (X.comp scope C N s₀ H₀ ex fun _ _ => False) tg g) (ho : OwnG own g)
    (ht : ∀ C s₀ H₀ ex, PIfs (X.comp scope C N s₀ H₀ ex fun _ _ => False) ifs ti) (he : ∀ C s₀ H₀ ex, PE (X.comp scope C N s₀ H₀ ex fun _ _ => False) elt te)
    (hs : ∀ x, foldedSetIterable iter X.env x = pure x := by intro _; rfl) : PE X (.ListComp elt [⟨tg, iter, ifs, 0⟩] scope pos) (tComp own js wi g ti te) := by
  obtain ⟨h1, h2, h3, h4, h5, h6⟩ := compOk_of ok
  subst hsc hXN
  refine pe_comp hc h1 h4 h2 h3 h5 (fun i j x a b => ?_) hi hg ho ht he hs
  obtain ⟨z1, z2, z3⟩ := h6 i j x a b
  exact ⟨z1, PySem.mem_of_lookup z2, z3, lookup_relabel_free z2⟩
theorem ps_setcB {i : Nat} {y : Str} {py spos : Pos} (hN : X.N.Nodup) (hi' : X.N[i]? = some y) (hy : Loc X.env.scope y) (hf : X.fn y = true ∨ X.env.scope.names.lookup y = some .local) (hc : X.calm = true) (ok : compOk XN sc scope own js N = true) (hsc : X.env.scope = sc) (hXN : X.N = XN) (hi : PI X tg iter wi)
    (hg : ∀ C s₀ H₀ ex, PG (X.comp scope C N s₀ H₀ ex fun _ _ => False) tg g) (ho : OwnG own g)
    (ht : ∀ C s₀ H₀ ex, PIfs (X.comp scope C N s₀ H₀ ex fun _ _ => False) ifs ti) (he : ∀ C s₀ H₀ ex, PE (X.comp scope C N s₀ H₀ ex fun _ _ => False) elt te)
    (hsw : swapsWith (.ListComp elt [⟨tg, iter, ifs, 0⟩] scope pos) (some (.Name y py)) spos.line X.env = pure true := by rfl)
    (hs : ∀ x, foldedSetIterable iter X.env x = pure x := by intro _; rfl) : PS X (.Assign [.Name y py] (.ListComp elt [⟨tg, iter, ifs, 0⟩] scope pos) spos) (tAsg (tComp own js wi g ti te) (gName i)) := by
  obtain ⟨h1, h2, h3, h4, h5, h6⟩ := compOk_of ok
  subst hsc hXN
  refine ps_setc hN hi' hy hf hc h1 h4 h2 h3 h5 (fun i j x a b => ?_) hi hg ho ht he hsw hs
  obtain ⟨z1, z2, z3⟩ := h6 i j x a b
  exact ⟨z1, PySem.mem_of_lookup z2, z3, lookup_relabel_free z2⟩
end
/-- over range(lo, lo + n): the word of the turn and of the list so far -/
theorem comp_range {lo : Int} {n : Nat} {own : Nat} {js : List Nat} {g : TG} {ti : TT} {te : TE} {σ : St} {H1 : Hp} {acc : Addr} {Q : VK} (Pv : Nat → Hp → Prop) (h0 : Pv 0 (upd H1 acc (.lst [])))
    (hs : ∀ i H2, i < n → Pv i H2 → g (.int (lo + i)) (capt own js σ) H2 fun σ4 H4 => ti σ4 H4 fun b H5 => if b = true then te σ4 H5 fun y H6 => rAppend (.ref acc) [y] H6 fun _ H7 => Pv (i + 1) H7 else Pv (i + 1) H5) (hd : ∀ H2, Pv n H2 → Q (.ref acc) H2)
    (mono : ∀ σ H (R R' : St → Hp → Prop) x, (∀ σ' H', R σ' H' → R' σ' H') → g x σ H R → g x σ H R') (monoT : ∀ σ H (R R' : Bool → Hp → Prop), (∀ b H', R b H' → R' b H') → ti σ H R → ti σ H R') (monoE : ∀ σ H (R R' : VK), (∀ v H', R v H' → R' v H') → te σ H R → te σ H R') :
    CompW (Itr lo n) own js g ti te σ H1 acc Q := by
  refine ⟨fun i m H2 => m = n - i ∧ i ≤ n ∧ Pv i H2, ⟨n, by simp, Nat.zero_le _, h0⟩, ?_⟩
  rintro i m H2 ⟨rfl, hi, p⟩
  by_cases hlt : i < n
  · refine .inr ⟨hlt, fun x H3 y => ?_⟩
    obtain ⟨e1, e2⟩ := y
    subst e1 e2
    refine mono _ _ _ _ _ (fun σ4 H4 q => monoT _ _ _ _ (fun b H5 q => ?_) q) (hs i _ hlt p)
    cases b with
    | true =>
      refine monoE _ _ _ _ (fun v H6 q => ?_) q
      obtain ⟨l, xs, y, a1, a2, a3, a4, a5⟩ := q
      exact ⟨l, xs, y, a1, a2, a3, a4, n - (i + 1), by omega, rfl, hlt, a5⟩
    | false => exact ⟨n - (i + 1), by omega, rfl, hlt, q⟩
  · have e : i = n := by omega
    subst e
    exact .inl ⟨Nat.le_refl _, hd H2 p⟩
/-- over a list that stays -/
theorem comp_list {K : PySem.W.Frag} {a : Addr} {xs : List V} {own : Nat} {js : List Nat} {g : TG} {ti : TT} {te : TE} {σ : St} {H1 : Hp} {acc : Addr} {Q : VK} (Pv : Nat → Hp → Prop) (h0 : Pv 0 (upd H1 acc (.lst []))) (hl : ∀ i H2, i ≤ xs.length → Pv i H2 → SqL K H2 a xs)
    (hs : ∀ i x H2, xs[i]? = some x → Pv i H2 → g x (capt own js σ) H2 fun σ4 H4 => ti σ4 H4 fun b H5 => if b = true then te σ4 H5 fun y H6 => rAppend (.ref acc) [y] H6 fun _ H7 => Pv (i + 1) H7 else Pv (i + 1) H5) (hd : ∀ H2, Pv xs.length H2 → Q (.ref acc) H2)
    (mono : ∀ σ H (R R' : St → Hp → Prop) x, (∀ σ' H', R σ' H' → R' σ' H') → g x σ H R → g x σ H R') (monoT : ∀ σ H (R R' : Bool → Hp → Prop), (∀ b H', R b H' → R' b H') → ti σ H R → ti σ H R') (monoE : ∀ σ H (R R' : VK), (∀ v H', R v H' → R' v H') → te σ H R → te σ H R') :
    CompW (Itl K a) own js g ti te σ H1 acc Q := by
  refine ⟨fun i m H2 => m = xs.length - i ∧ i ≤ xs.length ∧ Pv i H2, ⟨xs.length, by simp, Nat.zero_le _, h0⟩, ?_⟩
  rintro i m H2 ⟨rfl, hi, p⟩
  have q := hl i H2 hi p
  by_cases hlt : i < xs.length
  · refine .inr ⟨⟨xs, xs[i], q, by simp [hlt]⟩, fun x H3 y => ?_⟩
    obtain ⟨e1, y⟩ := y
    subst e1
    refine mono _ _ _ _ _ (fun σ4 H4 q => monoT _ _ _ _ (fun b H5 q => ?_) q) (hs i x _ (y xs q) p)
    cases b with
    | true =>
      refine monoE _ _ _ _ (fun v H6 q => ?_) q
      obtain ⟨l, xs, y, a1, a2, a3, a4, a5⟩ := q
      exact ⟨l, xs, y, a1, a2, a3, a4, _, by omega, rfl, hlt, a5⟩
    | false => exact ⟨_, by omega, rfl, hlt, q⟩
  · have e : i = xs.length := by omega
    subst e
    exact .inl ⟨⟨xs, q, Nat.le_refl _⟩, hd H2 p⟩
theorem mono_name {i : Nat} : ∀ (σ : St) (H : Hp) (R R' : St → Hp → Prop) (x : V), (∀ σ' H', R σ' H' → R' σ' H') → gName i x σ H R → gName i x σ H R' := fun _ _ _ _ _ k h => k _ _ h
theorem yesN {A B : St → Hp → Prop} {i : Nat} {x : V} {σ : St} {H : Hp} (h : A (σ.set i (some x)) H) : gName i x σ H fun σ4 H4 => tYes σ4 H4 fun b H5 => if b = true then A σ4 H5 else B σ4 H5 := by
  show if true = true then A (σ.set i (some x)) H else B (σ.set i (some x)) H
  rw [if_pos rfl]
  exact h
theorem ixN_nat {n i : Nat} (h : i < n) : ixN n (i : Int) = some i := by
  unfold ixN
  rw [if_pos (by omega), if_pos (by omega), Int.toNat_natCast]
theorem mono_yes : ∀ (σ : St) (H : Hp) (R R' : Bool → Hp → Prop), (∀ b H', R b H' → R' b H') → tYes σ H R → tYes σ H R' := fun _ _ _ _ k h => k _ _ h
end L2
/-! ### rules that name the written part, for a comprehension's block -/
namespace L2
open PySem PySem.Spec PyProof.Rows
section
variable {X : Cx} {K : PySem.W.Frag}
theorem ix_listK (h : X.K = K) : IxR X (rIxL K) := h ▸ ix_list
end
end L2
/-! ### ==, != of ints, lists, tuples at any depth; sum; // by larger numbers -/
namespace L2
open PySem PySem.Spec PyProof.Rows
/-- what == tells, d deep -/
inductive EqR (K : PySem.W.Frag) (H : Hp) : Nat → V → V → Bool → Prop where
  | int (d : Nat) (i j : Int) : EqR K H d (.int i) (.int j) (decide (i = j))
  | lists {d : Nat} {a b : Addr} {xs ys : List V} (es : Nat → Bool) (h1 : SqL K H a xs) (h2 : SqL K H b ys) (hl : xs.length = ys.length) (he : ∀ (j : Nat) x y, xs[j]? = some x → ys[j]? = some y → EqR K H d x y (es j)) : EqR K H (d + 1) (.ref a) (.ref b) ((List.range xs.length).all es)
  | lens {d : Nat} {a b : Addr} {xs ys : List V} (h1 : SqL K H a xs) (h2 : SqL K H b ys) (hl : xs.length ≠ ys.length) : EqR K H (d + 1) (.ref a) (.ref b) false
  | tuples {d : Nat} {a b : Addr} {xs ys : List V} (es : Nat → Bool) (h1 : SqT K H a xs) (h2 : SqT K H b ys) (he : ∀ (j : Nat) x y, xs[j]? = some x → ys[j]? = some y → EqR K H d x y (es j)) : EqR K H (d + 1) (.ref a) (.ref b) ((List.range (min xs.length ys.length)).all es && xs.length == ys.length)
section
variable {X : Cx} {pins : List (Addr × Obj)} {σ : St} {H : Hp} {s : Shared}
theorem EqR.same (I : Inv X pins σ H s) {d : Nat} {x y : V} {e : Bool} (h : EqR X.K H d x y e) : x = y → e = true := by
  induction h with
  | int d i j => intro q; cases q; simp
  | lists es h1 h2 hl he ih =>
    intro q
    cases q
    have z := I.list_inj h1 h2
    subst z
    rw [List.all_eq_true]
    intro j hj
    rw [List.mem_range] at hj
    have hx := List.getElem?_eq_getElem hj
    exact ih j _ _ hx hx rfl
  | lens h1 h2 hl =>
    intro q
    cases q
    exact absurd (congrArg List.length (I.list_inj h1 h2)) hl
  | @tuples d a b xs ys es h1 h2 he ih =>
    intro q
    cases q
    have z := I.tuple_inj h1 h2
    subst z
    rw [Bool.and_eq_true]
    refine ⟨?_, by simp⟩
    rw [List.all_eq_true]
    intro j hj
    rw [List.mem_range, Nat.min_self] at hj
    have hx := List.getElem?_eq_getElem hj
    exact ih j _ _ hx hx rfl
theorem units_in1 (A : Around) : A.in1.units = A.units + 1 := rfl
theorem EqR.at_ (I : Inv X pins σ H s) {d : Nat} {x y : V} {e : Bool} (h : EqR X.K H d x y e) : ∀ {A : Around} {u v : Value}, A.units + d < cLine → RelV x u → RelV y v → SeqAt.RcAt A s u v e ∧ SeqAt.RcNeAt A s u v (!e) ∧ SeqAt.EqAt A s u v e := by
  induction h with
  | int d i j =>
    intro A u v hu ru rv
    obtain ⟨t, rfl⟩ := ru
    obtain ⟨t', rfl⟩ := rv
    have e : decide (i = j) = (i == j) := by rw [Bool.beq_eq_decide_eq]
    rw [e]
    exact ⟨SeqAt.RcAt.int_int i t j t', SeqAt.RcNeAt.int_int i t j t', SeqAt.EqAt.int_int i t j t'⟩
  | @lists d a b xs ys es h1 h2 hl he ih =>
    intro A u v hu ru rv
    obtain rfl : u = Value.ref a := ru
    obtain rfl : v = Value.ref b := rv
    obtain ⟨is, r1, p1, z1⟩ := I.list h1
    obtain ⟨js, r2, p2, z2⟩ := I.list h2
    have l1 := r1.length
    have l2 := r2.length
    have ln : xs.length = is.toArray.size := by simpa using l1
    have sz : is.toArray.size = js.toArray.size := by simp only [List.size_toArray]; omega
    have it : ∀ j (q1 : j < is.toArray.size) (q2 : j < js.toArray.size), SeqAt.EqAt A.in1 s is.toArray[j] js.toArray[j] (es j) := fun j q1 q2 => by
      simp only [List.size_toArray] at q1 q2
      have hx : xs[j]? = some xs[j] := List.getElem?_eq_getElem (by omega)
      have hy : ys[j]? = some ys[j] := List.getElem?_eq_getElem (by omega)
      obtain ⟨u1, e1, ru1⟩ := r1.get hx
      obtain ⟨u2, e2, ru2⟩ := r2.get hy
      have g1 : is.toArray[j] = u1 := by
        rw [List.getElem?_eq_getElem q1] at e1
        simpa using Option.some.inj e1
      have g2 : js.toArray[j] = u2 := by
        rw [List.getElem?_eq_getElem q2] at e2
        simpa using Option.some.inj e2
      rw [g1, g2]
      exact (ih j _ _ hx hy (by rw [units_in1]; omega) ru1 ru2).2.2
    rw [ln]
    have R := SeqAt.RcAt.lists (A := A) p1.isList p2.isList sz (by omega) it
    refine ⟨R, SeqAt.RcNeAt.lists p1.isList p2.isList sz (by omega) it, ?_⟩
    by_cases q : a = b
    · subst q
      have := (EqR.lists es h1 h2 hl he).same I rfl
      rw [ln] at this
      rw [this]
      exact SeqAt.EqAt.same _
    · exact SeqAt.EqAt.of_refs q R
  | @lens d a b xs ys h1 h2 hl =>
    intro A u v hu ru rv
    obtain rfl : u = Value.ref a := ru
    obtain rfl : v = Value.ref b := rv
    obtain ⟨is, r1, p1, z1⟩ := I.list h1
    obtain ⟨js, r2, p2, z2⟩ := I.list h2
    have l1 := r1.length
    have l2 := r2.length
    have sz : (is.toArray.size != js.toArray.size) = true := by
      simp only [List.size_toArray, bne_iff_ne, ne_eq]
      omega
    have R := SeqAt.RcAt.lists_lengths (A := A) p1.isList p2.isList sz (by omega)
    refine ⟨R, SeqAt.RcNeAt.lists_lengths p1.isList p2.isList sz (by omega), ?_⟩
    by_cases q : a = b
    · subst q
      exact absurd (congrArg List.length (I.list_inj h1 h2)) hl
    · exact SeqAt.EqAt.of_refs q R
  | @tuples d a b xs ys es h1 h2 he ih =>
    intro A u v hu ru rv
    obtain rfl : u = Value.ref a := ru
    obtain rfl : v = Value.ref b := rv
    obtain ⟨is, r1, p1, z1⟩ := I.tuple h1
    obtain ⟨js, r2, p2, z2⟩ := I.tuple h2
    have l1 := r1.length
    have l2 := r2.length
    have ln : xs.length = is.toArray.size := by simpa using l1
    have ln2 : ys.length = js.toArray.size := by simpa using l2
    have it : ∀ j (q1 : j < is.toArray.size) (q2 : j < js.toArray.size), SeqAt.EqAt A.in1 s is.toArray[j] js.toArray[j] (es j) := fun j q1 q2 => by
      simp only [List.size_toArray] at q1 q2
      have hx : xs[j]? = some xs[j] := List.getElem?_eq_getElem (by omega)
      have hy : ys[j]? = some ys[j] := List.getElem?_eq_getElem (by omega)
      obtain ⟨u1, e1, ru1⟩ := r1.get hx
      obtain ⟨u2, e2, ru2⟩ := r2.get hy
      have g1 : is.toArray[j] = u1 := by
        rw [List.getElem?_eq_getElem q1] at e1
        simpa using Option.some.inj e1
      have g2 : js.toArray[j] = u2 := by
        rw [List.getElem?_eq_getElem q2] at e2
        simpa using Option.some.inj e2
      rw [g1, g2]
      exact (ih j _ _ hx hy (by rw [units_in1]; omega) ru1 ru2).2.2
    rw [ln, ln2]
    have R := SeqAt.RcAt.tuples (A := A) (show s.heap.IsTuple a is.toArray from p1) (show s.heap.IsTuple b js.toArray from p2) (by omega) it
    refine ⟨R, SeqAt.RcNeAt.tuples (show s.heap.IsTuple a is.toArray from p1) (show s.heap.IsTuple b js.toArray from p2) (by omega) it, ?_⟩
    by_cases q : a = b
    · subst q
      have := (EqR.tuples es h1 h2 he).same I rfl
      rw [ln, ln2] at this
      rw [this]
      exact SeqAt.EqAt.same _
    · exact SeqAt.EqAt.of_refs q R
/-- == and != of lists and tuples -/
def rEqS (K : PySem.W.Frag) (neg : Bool) : R2 := fun x y H Q => ∃ d e, EqR K H d x y e ∧ d ≤ 8 ∧ Q (.bl (if neg then !e else e)) H
theorem op_eqS {k : Nat} (hr : Room k X.A) : OpR X (compareOp .Eq) (rEqS X.K false) := by
  intro pins s σ H x y v u Q I rx ry h
  obtain ⟨d, e, r, hd, q⟩ := h
  have hu := hr.un
  exact (r.at_ I (A := X.A) (by omega) rx ry).1 X.prog X.w X.xe _ ⟨.bl e, H, I, rfl, q⟩
theorem eqR_ints {K : PySem.W.Frag} {a b : Addr} {ns ms : List Int} (h1 : SqL K H a (ns.map V.int)) (h2 : SqL K H b (ms.map V.int)) : EqR K H 1 (.ref a) (.ref b) (decide (ns = ms)) := by
  by_cases hl : ns.length = ms.length
  · have e : decide (ns = ms) = (List.range (ns.map V.int).length).all fun j => decide (ns.getD j 0 = ms.getD j 0) := by
      rw [Bool.eq_iff_iff, decide_eq_true_iff, List.all_eq_true]
      constructor
      · rintro rfl j _
        simp
      · intro h
        refine List.ext_getElem hl fun j p q => ?_
        have := h j (by rw [List.mem_range, List.length_map]; exact p)
        simpa [List.getD, p, q] using this
    rw [e]
    refine EqR.lists _ h1 h2 (by simpa using hl) fun j x y hx hy => ?_
    rw [List.getElem?_map] at hx hy
    obtain ⟨i, h3, rfl⟩ := Option.map_eq_some_iff.mp hx
    obtain ⟨i', h4, rfl⟩ := Option.map_eq_some_iff.mp hy
    have e3 : ns.getD j 0 = i := by rw [List.getD, h3]; rfl
    have e4 : ms.getD j 0 = i' := by rw [List.getD, h4]; rfl
    simp only [e3, e4]
    exact EqR.int 0 i i'
  · have e : decide (ns = ms) = false := decide_eq_false fun z => hl (congrArg List.length z)
    rw [e]
    exact EqR.lens h1 h2 (by simpa using hl)
end
end L2
/-! ### reversed(xs) of a list: as a list, as a loop's source -/
namespace L2
open PySem PySem.Spec PyProof.Rows
section
variable {prog : Program} {w : World} {A : Around} {E : Value → Shared → Prop} {s : Shared}
end
section
variable {X : Cx} {e : Expr} {te : TE} {p1 p2 p3 pos : Pos}
end
end L2
/-! ### for i, x in enumerate(xs) -/
namespace L2
open PySem PySem.Spec PyProof.Rows
section
variable {X : Cx} {elts : List Expr} {k : Nat} {tpos p pos : Pos} {e : Expr} {te : TE}
end
end L2

/-! ### xs[::-1]; a wished state behind a statement -/
namespace L2
open PySem PySem.Spec PyProof.Rows
section
variable {X : Cx} {e : Expr} {te : TE} {st : Expr} {ts : TO} {pos p2 : Pos}
end
section
variable {X : Cx} {st : Stmt} {t : TS}
end
end L2
/-! ### data: ints, lists, tuples, at any depth -/
namespace L2
open PySem PySem.Spec PyProof.Rows
inductive D where
  | i (n : Int) | l (xs : List D) | t (xs : List D)
mutual
/-- the value v is the datum -/
def Is (H : Hp) : D → V → Prop
  | .i n, v => v = .int n
  | .l xs, v => ∃ a vs, v = .ref a ∧ H a = some (.lst vs) ∧ Iss H xs vs
  | .t xs, v => ∃ a vs, v = .ref a ∧ H a = some (.tup vs) ∧ Iss H xs vs
def Iss (H : Hp) : List D → List V → Prop
  | [], vs => vs = []
  | x :: xs, vs => ∃ u us, vs = u :: us ∧ Is H x u ∧ Iss H xs us
end
theorem is_i {H : Hp} {n : Int} : Is H (.i n) (.int n) := by unfold Is; rfl
theorem is_l {H : Hp} {a : Addr} {xs : List D} {vs : List V} (h : H a = some (.lst vs)) (k : Iss H xs vs) : Is H (.l xs) (.ref a) := by unfold Is; exact ⟨a, vs, rfl, h, k⟩
theorem is_t {H : Hp} {a : Addr} {xs : List D} {vs : List V} (h : H a = some (.tup vs)) (k : Iss H xs vs) : Is H (.t xs) (.ref a) := by unfold Is; exact ⟨a, vs, rfl, h, k⟩
theorem of_i {H : Hp} {n : Int} {v : V} (h : Is H (.i n) v) : v = .int n := by unfold Is at h; exact h
theorem of_l {H : Hp} {xs : List D} {v : V} (h : Is H (.l xs) v) : ∃ a vs, v = .ref a ∧ H a = some (.lst vs) ∧ Iss H xs vs := by unfold Is at h; exact h
theorem of_t {H : Hp} {xs : List D} {v : V} (h : Is H (.t xs) v) : ∃ a vs, v = .ref a ∧ H a = some (.tup vs) ∧ Iss H xs vs := by unfold Is at h; exact h
theorem iss_nil {H : Hp} : Iss H [] [] := by unfold Iss; rfl
theorem iss_cons {H : Hp} {x : D} {xs : List D} {u : V} {us : List V} (h : Is H x u) (k : Iss H xs us) : Iss H (x :: xs) (u :: us) := by unfold Iss; exact ⟨u, us, rfl, h, k⟩
theorem of_cons {H : Hp} {x : D} {xs : List D} {vs : List V} (h : Iss H (x :: xs) vs) : ∃ u us, vs = u :: us ∧ Is H x u ∧ Iss H xs us := by unfold Iss at h; exact h
theorem of_nil {H : Hp} {vs : List V} (h : Iss H [] vs) : vs = [] := by unfold Iss at h; exact h
mutual
theorem Is.mono {H H' : Hp} (s : Same H H') : ∀ {d : D} {v : V}, Is H d v → Is H' d v
  | .i _, _, h => by rw [of_i h]; exact is_i
  | .l xs, _, h => by
    obtain ⟨a, vs, e, q, r⟩ := of_l h
    rw [e]
    exact is_l (s _ _ q) (Iss.mono s r)
  | .t xs, _, h => by
    obtain ⟨a, vs, e, q, r⟩ := of_t h
    rw [e]
    exact is_t (s _ _ q) (Iss.mono s r)
theorem Iss.mono {H H' : Hp} (s : Same H H') : ∀ {xs : List D} {vs : List V}, Iss H xs vs → Iss H' xs vs
  | [], _, h => by rw [of_nil h]; exact iss_nil
  | x :: xs, _, h => by
    obtain ⟨u, us, e, q, r⟩ := of_cons h
    rw [e]
    exact iss_cons (Is.mono s q) (Iss.mono s r)
end
theorem Iss.length {H : Hp} : ∀ {xs : List D} {vs : List V}, Iss H xs vs → vs.length = xs.length
  | [], _, h => by rw [of_nil h]; rfl
  | x :: xs, _, h => by
    obtain ⟨u, us, rfl, _, r⟩ := of_cons h
    rw [List.length_cons, List.length_cons, r.length]
theorem Iss.get {H : Hp} : ∀ {xs : List D} {vs : List V} {j : Nat} {x : D}, Iss H xs vs → xs[j]? = some x → ∃ v, vs[j]? = some v ∧ Is H x v
  | [], _, _, _, _, e => by simp at e
  | x :: xs, _, 0, _, h, e => by
    obtain ⟨u, us, rfl, q, _⟩ := of_cons h
    simp at e
    subst e
    exact ⟨u, rfl, q⟩
  | x :: xs, _, j + 1, _, h, e => by
    obtain ⟨u, us, rfl, _, r⟩ := of_cons h
    obtain ⟨v, e', k⟩ := r.get (j := j) (by simpa using e)
    exact ⟨v, by simpa using e', k⟩
theorem Iss.of_get {H : Hp} {xs : List D} {vs : List V} {j : Nat} {v : V} (h : Iss H xs vs) (e : vs[j]? = some v) : ∃ x, xs[j]? = some x ∧ Is H x v := by
  have hj : j < vs.length := (List.getElem?_eq_some_iff.mp e).1
  have hj' : j < xs.length := by rw [← h.length]; exact hj
  obtain ⟨u, e1, k⟩ := h.get (List.getElem?_eq_getElem hj')
  rw [e] at e1
  cases e1
  exact ⟨_, List.getElem?_eq_getElem hj', k⟩
theorem Iss.append {H : Hp} : ∀ {xs ys : List D} {vs ws : List V}, Iss H xs vs → Iss H ys ws → Iss H (xs ++ ys) (vs ++ ws)
  | [], _, _, _, h, k => by rw [of_nil h]; exact k
  | x :: xs, _, _, _, h, k => by
    obtain ⟨u, us, rfl, q, r⟩ := of_cons h
    exact iss_cons q (r.append k)
theorem Iss.take {H : Hp} : ∀ {xs : List D} {vs : List V} (n : Nat), Iss H xs vs → Iss H (xs.take n) (vs.take n)
  | [], _, n, h => by rw [of_nil h]; simp; exact iss_nil
  | x :: xs, _, 0, h => by simp; exact iss_nil
  | x :: xs, _, n + 1, h => by
    obtain ⟨u, us, rfl, q, r⟩ := of_cons h
    exact iss_cons q (r.take n)
theorem Iss.drop {H : Hp} : ∀ {xs : List D} {vs : List V} (n : Nat), Iss H xs vs → Iss H (xs.drop n) (vs.drop n)
  | [], _, n, h => by rw [of_nil h]; simp; exact iss_nil
  | x :: xs, _, 0, h => h
  | x :: xs, _, n + 1, h => by
    obtain ⟨u, us, rfl, q, r⟩ := of_cons h
    exact r.drop n
mutual
/-- may be compared -/
def Kin : D → D → Prop
  | .i _, .i _ => True
  | .l xs, .l ys => Kins xs ys
  | .t xs, .t ys => Kins xs ys
  | _, _ => False
def Kins : List D → List D → Prop
  | x :: xs, y :: ys => Kin x y ∧ Kins xs ys
  | _, _ => True
end
mutual
def eqD : D → D → Bool
  | .i a, .i b => decide (a = b)
  | .l xs, .l ys => eqDs xs ys
  | .t xs, .t ys => eqDs xs ys
  | _, _ => false
def eqDs : List D → List D → Bool
  | [], [] => true
  | x :: xs, y :: ys => eqD x y && eqDs xs ys
  | _, _ => false
end
mutual
def dep : D → Nat
  | .i _ => 0
  | .l xs => deps xs + 1
  | .t xs => deps xs + 1
def deps : List D → Nat
  | [] => 0
  | x :: xs => max (dep x) (deps xs)
end
mutual
theorem eqD_iff : ∀ {a b : D}, eqD a b = true ↔ a = b
  | .i a, .i b => by simp [eqD]
  | .i _, .l _ => by simp [eqD]
  | .i _, .t _ => by simp [eqD]
  | .l _, .i _ => by simp [eqD]
  | .l xs, .l ys => by simp [eqD, eqDs_iff (xs := xs) (ys := ys)]
  | .l _, .t _ => by simp [eqD]
  | .t _, .i _ => by simp [eqD]
  | .t _, .l _ => by simp [eqD]
  | .t xs, .t ys => by simp [eqD, eqDs_iff (xs := xs) (ys := ys)]
theorem eqDs_iff : ∀ {xs ys : List D}, eqDs xs ys = true ↔ xs = ys
  | [], [] => by simp [eqDs]
  | [], _ :: _ => by simp [eqDs]
  | _ :: _, [] => by simp [eqDs]
  | x :: xs, y :: ys => by simp [eqDs, eqD_iff (a := x) (b := y), eqDs_iff (xs := xs) (ys := ys)]
end
theorem eqD_self {a : D} : eqD a a = true := eqD_iff.mpr rfl
theorem eqD_ne {a b : D} (h : a ≠ b) : eqD a b = false := by
  cases e : eqD a b with
  | false => rfl
  | true => exact absurd (eqD_iff.mp e) h
theorem eqDs_all : ∀ {xs ys : List D}, xs.length = ys.length → eqDs xs ys = (List.range xs.length).all fun j => eqD (xs.getD j (.i 0)) (ys.getD j (.i 0))
  | [], [], _ => by simp [eqDs]
  | x :: xs, y :: ys, h => by
    have ih := eqDs_all (xs := xs) (ys := ys) (by simpa using h)
    rw [eqDs, ih, List.length_cons, List.range_succ_eq_map]
    simp [List.all_map, Function.comp_def]
theorem eqDs_len {xs ys : List D} (h : xs.length ≠ ys.length) : eqDs xs ys = false := by
  cases e : eqDs xs ys with
  | false => rfl
  | true => exact absurd (congrArg List.length (eqDs_iff.mp e)) h
mutual
theorem Is.eqr {K : PySem.W.Frag} {H : Hp} : ∀ {d e : D} {v w : V} {n : Nat}, dep d ≤ n → Kin d e → Is H d v → Is H e w → EqR K H n v w (eqD d e)
  | .i a, .i b, _, _, n, _, _, h, k => by
    rw [of_i h, of_i k, eqD]
    exact EqR.int n a b
  | .l xs, .l ys, _, _, 0, hn, _, _, _ => absurd hn (by unfold dep; omega)
  | .l xs, .l ys, _, _, n + 1, hn, hk, h, k => by
    obtain ⟨a, vs, rfl, ha, ra⟩ := of_l h
    obtain ⟨b, ws, rfl, hb, rb⟩ := of_l k
    have hn' : deps xs ≤ n := by unfold dep at hn; omega
    have hk' : Kins xs ys := by unfold Kin at hk; exact hk
    have l1 := ra.length
    have l2 := rb.length
    rw [eqD]
    by_cases hl : xs.length = ys.length
    · rw [eqDs_all hl, ← l1]
      exact EqR.lists _ (SqL.of ha) (SqL.of hb) (by omega) fun j x y hx hy => Iss.eqr hn' hk' ra rb hx hy
    · rw [eqDs_len hl]
      exact EqR.lens (SqL.of ha) (SqL.of hb) (by omega)
  | .t xs, .t ys, _, _, 0, hn, _, _, _ => absurd hn (by unfold dep; omega)
  | .t xs, .t ys, _, _, n + 1, hn, hk, h, k => by
    obtain ⟨a, vs, rfl, ha, ra⟩ := of_t h
    obtain ⟨b, ws, rfl, hb, rb⟩ := of_t k
    have hn' : deps xs ≤ n := by unfold dep at hn; omega
    have hk' : Kins xs ys := by unfold Kin at hk; exact hk
    have l1 := ra.length
    have l2 := rb.length
    rw [eqD]
    have q := EqR.tuples (d := n) (fun j => eqD (xs.getD j (.i 0)) (ys.getD j (.i 0))) (SqT.of (K := K) ha) (SqT.of (K := K) hb) fun j x y hx hy => Iss.eqr hn' hk' ra rb hx hy
    by_cases hl : xs.length = ys.length
    · rw [eqDs_all hl]
      rw [l1, l2, ← hl, Nat.min_self] at q
      simpa using q
    · rw [eqDs_len hl]
      have z : (vs.length == ws.length) = false := by rw [l1, l2]; simpa using hl
      rw [z, Bool.and_false] at q
      exact q
  | .i _, .l _, _, _, _, _, hk, _, _ => by unfold Kin at hk; exact hk.elim
  | .i _, .t _, _, _, _, _, hk, _, _ => by unfold Kin at hk; exact hk.elim
  | .l _, .i _, _, _, _, _, hk, _, _ => by unfold Kin at hk; exact hk.elim
  | .l _, .t _, _, _, _, _, hk, _, _ => by unfold Kin at hk; exact hk.elim
  | .t _, .i _, _, _, _, _, hk, _, _ => by unfold Kin at hk; exact hk.elim
  | .t _, .l _, _, _, _, _, hk, _, _ => by unfold Kin at hk; exact hk.elim
theorem Iss.eqr {K : PySem.W.Frag} {H : Hp} : ∀ {xs ys : List D} {vs ws : List V} {n : Nat}, deps xs ≤ n → Kins xs ys → Iss H xs vs → Iss H ys ws → ∀ {j : Nat} {x y : V}, vs[j]? = some x → ws[j]? = some y →
    EqR K H n x y (eqD (xs.getD j (.i 0)) (ys.getD j (.i 0)))
  | [], _, _, _, _, _, _, h, _, _, _, _, e, _ => by rw [of_nil h] at e; simp at e
  | _ :: _, [], _, _, _, _, _, _, k, _, _, _, _, e => by rw [of_nil k] at e; simp at e
  | x :: xs, y :: ys, _, _, n, hn, hk, h, k, 0, u, w, e1, e2 => by
    obtain ⟨u', us, rfl, q, _⟩ := of_cons h
    obtain ⟨w', ws, rfl, q', _⟩ := of_cons k
    simp at e1 e2
    subst e1 e2
    have hk' : Kin x y ∧ Kins xs ys := by unfold Kins at hk; exact hk
    have hd : dep x ≤ n := by unfold deps at hn; omega
    exact Is.eqr (d := x) (e := y) hd hk'.1 q q'
  | x :: xs, y :: ys, _, _, n, hn, hk, h, k, j + 1, u, w, e1, e2 => by
    obtain ⟨u', us, rfl, _, r⟩ := of_cons h
    obtain ⟨w', ws, rfl, _, r'⟩ := of_cons k
    have hk' : Kin x y ∧ Kins xs ys := by unfold Kins at hk; exact hk
    have hd : deps xs ≤ n := by unfold deps at hn; omega
    have := Iss.eqr (K := K) hd hk'.2 r r' (j := j) (by simpa using e1) (by simpa using e2)
    simpa using this
end
/-! ### points -/
abbrev Pt := Int × Int
def pt (p : Pt) : D := .t [.i p.1, .i p.2]
def pts (ps : List Pt) : D := .l (ps.map pt)
theorem pt_inj {p q : Pt} (h : pt p = pt q) : p = q := by
  unfold pt at h
  injection h with h
  injection h with h1 h2
  injection h2 with h2 _
  injection h1 with h1
  injection h2 with h2
  exact Prod.ext h1 h2
theorem map_pt_inj : ∀ {ps qs : List Pt}, ps.map pt = qs.map pt → ps = qs
  | [], [], _ => rfl
  | [], _ :: _, h => by simp at h
  | _ :: _, [], h => by simp at h
  | p :: ps, q :: qs, h => by
    rw [List.map_cons, List.map_cons] at h
    injection h with h1 h2
    rw [pt_inj h1, map_pt_inj h2]
theorem eqD_pt {p q : Pt} : eqD (pt p) (pt q) = decide (p = q) := by
  rw [Bool.eq_iff_iff, eqD_iff, decide_eq_true_iff]
  exact ⟨pt_inj, fun h => by rw [h]⟩
theorem eqD_pts {p q : List Pt} : eqD (pts p) (pts q) = decide (p = q) := by
  rw [Bool.eq_iff_iff, eqD_iff, decide_eq_true_iff]
  exact ⟨fun h => map_pt_inj (by unfold pts at h; injection h), fun h => by rw [h]⟩
theorem kin_pt {p q : Pt} : Kin (pt p) (pt q) := by simp [pt, Kin, Kins]
theorem kins_pts : ∀ {ps qs : List Pt}, Kins (ps.map pt) (qs.map pt)
  | [], _ => by simp [Kins]
  | _ :: _, [] => by simp [Kins]
  | p :: ps, q :: qs => by simp only [List.map_cons, Kins]; exact ⟨kin_pt, kins_pts⟩
theorem kin_pts {p q : List Pt} : Kin (pts p) (pts q) := by unfold pts Kin; exact kins_pts
theorem dep_pt {p : Pt} : dep (pt p) = 1 := by simp [pt, dep, deps]
theorem deps_pts : ∀ {ps : List Pt}, deps (ps.map pt) ≤ 1
  | [] => by simp [deps]
  | p :: ps => by have := deps_pts (ps := ps); rw [List.map_cons, deps, dep_pt]; omega
theorem dep_pts {p : List Pt} : dep (pts p) ≤ 2 := by have := deps_pts (ps := p); unfold pts dep; omega
theorem eqr_pt {K : PySem.W.Frag} {H : Hp} {p q : Pt} {v w : V} (h : Is H (pt p) v) (k : Is H (pt q) w) : EqR K H 1 v w (decide (p = q)) := by
  rw [← eqD_pt]; exact h.eqr (by rw [dep_pt]; omega) kin_pt k
theorem eqr_pts {K : PySem.W.Frag} {H : Hp} {p q : List Pt} {v w : V} (h : Is H (pts p) v) (k : Is H (pts q) w) : EqR K H 2 v w (decide (p = q)) := by
  rw [← eqD_pts]; exact h.eqr dep_pts kin_pts k
theorem of_pt {H : Hp} {p : Pt} {v : V} (h : Is H (pt p) v) : ∃ a, v = .ref a ∧ H a = some (.tup [.int p.1, .int p.2]) := by
  obtain ⟨a, vs, e, q, r⟩ := of_t h
  obtain ⟨u, us, rfl, h1, r⟩ := of_cons r
  obtain ⟨u', us', rfl, h2, r⟩ := of_cons r
  rw [of_nil r, of_i h1, of_i h2] at q
  exact ⟨a, e, q⟩
theorem is_pt {H : Hp} {p : Pt} {a : Addr} (h : H a = some (.tup [.int p.1, .int p.2])) : Is H (pt p) (.ref a) := is_t h (iss_cons is_i (iss_cons is_i iss_nil))
theorem of_pts {H : Hp} {ps : List Pt} {v : V} (h : Is H (pts ps) v) : ∃ a vs, v = .ref a ∧ H a = some (.lst vs) ∧ Iss H (ps.map pt) vs := of_l h
/-! ### a list that grows -/
/-- without what stands at a -/
def hid (H : Hp) (a : Addr) : Hp := fun b => if b = a then none else H b
theorem hid_at {H : Hp} {a b : Addr} (h : b ≠ a) : hid H a b = H b := by unfold hid; rw [if_neg h]
theorem hid_self {H : Hp} {a : Addr} : hid H a a = none := by unfold hid; rw [if_pos rfl]
theorem hid_same {H : Hp} {a : Addr} : Same (hid H a) H := fun b o e => by
  unfold hid at e
  split at e
  · cases e
  · exact e
theorem hid_mono {H H' : Hp} {a : Addr} (s : Same H H') : Same (hid H a) (hid H' a) := fun b o e => by
  unfold hid at e ⊢
  split at e
  · cases e
  · rename_i h
    rw [if_neg h]
    exact s b o e
theorem hid_upd {H : Hp} {a : Addr} {o : HO} : hid (upd H a o) a = hid H a := by
  funext b
  unfold hid
  split
  · rfl
  · rename_i h
    exact upd_ne h
/-- none of the list's own things is the list -/
def Grow (H : Hp) (a : Addr) (xs : List D) : Prop := ∃ vs, H a = some (.lst vs) ∧ Iss (hid H a) xs vs
theorem Grow.start {H : Hp} {a : Addr} : Grow (upd H a (.lst [])) a [] := ⟨[], upd_same, iss_nil⟩
theorem Grow.mono {H H' : Hp} {a : Addr} {xs : List D} (s : Same H H') (g : Grow H a xs) : Grow H' a xs := let ⟨vs, e, h⟩ := g; ⟨vs, s _ _ e, h.mono (hid_mono s)⟩
theorem Grow.is {H : Hp} {a : Addr} {xs : List D} (g : Grow H a xs) : Is H (.l xs) (.ref a) := let ⟨_, e, h⟩ := g; is_l e (h.mono hid_same)
theorem grow_add {H : Hp} {a : Addr} {xs : List D} {x : D} {vs : List V} {v : V} (h : Iss (hid H a) xs vs) (k : Is (hid H a) x v) : Grow (upd H a (.lst (vs ++ [v]))) a (xs ++ [x]) :=
  ⟨_, upd_same, by rw [hid_upd]; exact h.append (iss_cons k iss_nil)⟩
end L2
/-! ### what is newly laid, told by what is true of it -/
namespace L2
open PySem PySem.Spec PyProof.Rows
section
variable {X : Cx} {es : List Expr} {t : TA} {pos : Pos}
def New (H : Hp) (o : HO) (Q : VK) : Prop := ∀ p H2, H p = none → Same H H2 → H2 p = some o → Q (.ref p) H2
theorem New.at {H : Hp} {o : HO} {Q : VK} (q : New H o Q) {p : Addr} (np : H p = none) : Q (.ref p) (upd H p o) := q p _ np (Same.new np) upd_same
def tTupN (t : TA) : TE := fun σ H Q => t σ H fun xs H1 => xs.length ≤ sizeLine ∧ New H1 (.tup xs) Q
def tLstN (t : TA) : TE := fun σ H Q => t σ H fun xs H1 => xs.length ≤ sizeLine ∧ New H1 (.lst xs) Q
theorem pe_tupN {x1} (h : PA X es t) : PE X (.Tuple es x1 pos) (tTupN t) := by
  intro pins s σ H Q I hq
  refine wpAny_Tuple_spliced (thn (h pos pins s σ H _ I hq) fun us s1 ⟨xs, H1, I1, r, z, q⟩ => ⟨by rw [← r.length]; exact z, ?_⟩)
  refine ⟨.ref s1.heap.objs.size, upd H1 s1.heap.objs.size (.tup xs), I1.laid (t' := s1.toks) (fun b u e => Heap.get?_push_of_some _ e) (Nat.le_refl _) ?_, rfl, q.at (I1.hok.fresh (Nat.le_refl _))⟩
  exact ⟨z, us, r, ⟨_, Heap.get?_push_size _ rfl, rfl, _, rfl⟩⟩
theorem pe_lstN (h : PA X es t) : PE X (.List es pos) (tLstN t) := by
  intro pins s σ H Q I hq
  refine wpAny_List_spliced (thn (h pos pins s σ H _ I hq) fun us s1 ⟨xs, H1, I1, r, z, q⟩ => ⟨by rw [← r.length]; exact z, ?_⟩)
  refine ⟨.ref s1.heap.objs.size, upd H1 s1.heap.objs.size (.lst xs), I1.laid (t' := s1.toks) (fun b u e => Heap.get?_push_of_some _ e) (Nat.le_refl _) ?_, rfl, q.at (I1.hok.fresh (Nat.le_refl _))⟩
  exact ⟨z, us, 0, r, Heap.get?_push_size _ rfl⟩
theorem OpR.imp {f : Value → Value → Sem Value} {r r' : R2} (h : OpR X f r) (k : ∀ x y H Q, r' x y H Q → r x y H Q) : OpR X f r' := fun pins s σ H x y v u Q I rx ry q => h pins s σ H x y v u Q I rx ry (k _ _ _ _ q)
theorem CallR.imp {f : Value} {r r' : List V → Hp → VK → Prop} (h : CallR X f r) (k : ∀ xs H Q, r' xs H Q → r xs H Q) : CallR X f r' := fun pins s σ H xs us Q I rs q => h pins s σ H xs us Q I rs (k _ _ _ q)
/-- a + b, two lists of data -/
theorem op_catN : OpR X (binaryOp .Add) (fun x y H Q => ∃ xs zs, Is H (.l xs) x ∧ Is H (.l zs) y ∧ xs.length + zs.length ≤ sizeLine ∧ ∀ p H2, H p = none → Same H H2 → Is H2 (.l (xs ++ zs)) (.ref p) → Q (.ref p) H2) :=
  op_cat.imp fun x y H Q ⟨xs, zs, hx, hz, hl, q⟩ => by
    obtain ⟨a, vs, rfl, ha, ra⟩ := of_l hx
    obtain ⟨b, ws, rfl, hb, rb⟩ := of_l hz
    exact ⟨a, b, vs, ws, rfl, rfl, ha, hb, by rw [ra.length, rb.length]; exact hl, fun p np => q p _ np (Same.new np) (is_l upd_same ((ra.append rb).mono (Same.new np)))⟩
/-- xs[i], a datum's item -/
theorem ix_D {α : Type} {xs : List α} {i : Int} {j : Nat} {x : α} (e : i = j) (h : xs[j]? = some x) : atI xs i = some x := by rw [e]; exact atI_nat h
theorem Iss.atI {H : Hp} {xs : List D} {vs : List V} {i : Int} {x : D} (h : Iss H xs vs) (e : L2.atI xs i = some x) : ∃ u, L2.atI vs i = some u ∧ Is H x u := by
  unfold L2.atI at e ⊢
  rw [h.length]
  cases q : ixN xs.length i with
  | none => rw [q] at e; cases e
  | some j =>
    rw [q] at e
    obtain ⟨u, e1, k⟩ := h.get (j := j) e
    exact ⟨u, e1, k⟩
theorem ix_listN : IxR X (fun x y H Q => ∃ xs i d, Is H (.l xs) x ∧ y = .int i ∧ atI xs i = some d ∧ ∀ u, Is H d u → Q u H) := by
  intro value slice pins s σ H x y v u Q I rx ry h hs
  obtain ⟨xs, i, d, hx, ey, e, q⟩ := h
  obtain ⟨a, vs, rfl, ha, ra⟩ := of_l hx
  obtain ⟨z, ez, hz⟩ := ra.atI e
  exact ix_list value slice pins s σ H (.ref a) y v u Q I rx ry ⟨a, vs, i, z, rfl, ey, SqL.of ha, ez, q z hz⟩ hs
theorem ix_tupN : IxR X (fun x y H Q => ∃ xs i d, Is H (.t xs) x ∧ y = .int i ∧ atI xs i = some d ∧ ∀ u, Is H d u → Q u H) := by
  intro value slice pins s σ H x y v u Q I rx ry h hs
  obtain ⟨xs, i, d, hx, ey, e, q⟩ := h
  obtain ⟨a, vs, rfl, ha, ra⟩ := of_t hx
  obtain ⟨z, ez, hz⟩ := ra.atI e
  exact ix_tup value slice pins s σ H (.ref a) y v u Q I rx ry ⟨a, vs, i, z, rfl, ey, SqT.of ha, ez, q z hz⟩ hs
/-- len(xs) -/
theorem call_lenN : CallR X (.builtin "len") (fun vs H Q => ∃ v xs, vs = [v] ∧ (Is H (.l xs) v ∨ Is H (.t xs) v) ∧ Q (.int xs.length) H) :=
  call_len_seq.imp fun vs H Q ⟨v, xs, ev, hx, q⟩ => by
    subst ev
    rcases hx with hx | hx
    · obtain ⟨a, ws, rfl, ha, ra⟩ := of_l hx
      exact ⟨a, ws, rfl, .inl (SqL.of ha), by rw [ra.length]; exact q⟩
    · obtain ⟨a, ws, rfl, ha, ra⟩ := of_t hx
      exact ⟨a, ws, rfl, .inr (SqT.of ha), by rw [ra.length]; exact q⟩
end
end L2
/-! ### exceptions of own classes: raised in a def, passed on, caught -/
namespace L2
open PySem PySem.Spec PyProof.Rows
section
variable {P : Program} {w : World} {H : Hp} {h : Heap} {a : Addr} {o : HO}
theorem ObjOk.obj (x : ObjOk P w H h a o) : ∃ ob, h.get? a = some ob := by
  cases o with
  | lst xs => obtain ⟨_, _, _, _, e⟩ := x; exact ⟨_, e⟩
  | tup xs => obtain ⟨_, _, _, _, e, _⟩ := x; exact ⟨_, e⟩
  | dK kvs => obtain ⟨_, _, _, _, _, _, _, e, _⟩ := x; exact ⟨_, e⟩
  | dT kvs => obtain ⟨_, _, _, _, _, _, _, e, _⟩ := x; exact ⟨_, e⟩
  | set S n => obtain ⟨_, _, _, _, e, _⟩ := x; exact ⟨_, e⟩
  | ins C dx fs => obtain ⟨_, _, _, e, _⟩ := x; exact ⟨_, e⟩
  | own y => exact x
  | xd fs => obtain ⟨_, ⟨_, _, _, e, _⟩, _⟩ := x; exact ⟨_, e⟩
  | rng lo hi => obtain ⟨_, _, _, e⟩ := x; exact ⟨_, e⟩
  | frz ob u => exact ⟨_, x.1⟩
  | tbl ps => exact ⟨_, x⟩
  | met f y => exact ⟨_, x⟩
  | ext φ => exact x.2.1
end
/-- how an exception of an own class lies behind a call: B is the heap at the raise, without the frames -/
def CX1 (P : Program) (w : World) : CXT := fun outer H s E e s' =>
  ∃ (a C : Addr) (H' : Hp) (B : Heap) (a0 : Value), e = .ref a ∧ E (.ref C) none H' ∧ s'.os = s.os ∧ AllBare s'.gens ∧ Un (frs outer) [] H H' s.heap s'.heap ∧ HOk P w H' B ∧ H' a = none ∧
    Heap.FlyingW B outer a (.ref C) a0 s'.heap ∧ (∀ b o, s.heap.get? b = some o → H b = none → b ∉ frs outer → B.get? b = some o) ∧ (∀ b o, s.heap.get? b = some o → b ∉ frs outer → ∃ o', B.get? b = some o')
/-- an exception of class C that is made here reaches what this body wants of exceptions -/
def Raises (X : Cx) (E : XK) : Prop := ∀ (pins : List (Addr × Obj)) (σ : St) (H : Hp) (s : Shared) (h' : Heap) (e C : Addr) (args : List Value), Inv X pins σ H s → Heap.MadeExcOf s.heap h' e (.ref C) args → E (.ref C) none H → X.xe (.ref e) { s with heap := h' }
theorem passE0 {X : Cx} {P : Program} {w : World} : Passes (CX1 P w) X E0 := fun _ _ _ _ _ _ _ ⟨_, _, _, _, _, _, z, _⟩ => z.elim
section
variable {X : Cx} {pins : List (Addr × Obj)} {σ : St} {H H' : Hp} {s s' : Shared} {B h' : Heap} {l : List Env}
theorem un_fly (u : Un (frs l) [] H H' s.heap s'.heap) (fl : s'.heap.FunFrames B l) (kB : ∀ b o, s.heap.get? b = some o → H b = none → b ∉ frs l → B.get? b = some o) (tB : ∀ b o, s.heap.get? b = some o → b ∉ frs l → ∃ o', B.get? b = some o')
    (st : B.StaysIn h') (up : s'.heap.UpToSlots h') : Un (frs l) [] H H' s.heap h' where
  keep := fun b o e n hb _ => st b o (kB b o e n hb)
  slot := fun b o e n hb hx => by
    obtain ⟨sl, e1⟩ := u.slot b o e n hb hx
    obtain ⟨_, o', e2, d⟩ := fl.mem hb
    rw [e1] at e2
    cases e2
    obtain ⟨sl', e3⟩ := up b _ e1 d
    exact ⟨sl', e3⟩
  free := u.free
  there := fun b o e hx => by
    by_cases hb : b ∈ frs l
    · obtain ⟨_, o', e2, d⟩ := fl.mem hb
      obtain ⟨sl', e3⟩ := up b _ e2 d
      exact ⟨_, e3⟩
    · obtain ⟨o', e2⟩ := tB b o e hb
      exact ⟨o', st b o' e2⟩
  tups := u.tups
  frzs := u.frzs
  tbls := u.tbls
theorem Inv.nstk (I : Inv X pins σ H s) {b : Addr} {o : Obj} (e : X.s₀.heap.get? b = some o) (hb : b ∉ X.fs) : b ∉ frs X.stack := fun z => by
  rcases List.mem_cons.mp (I.stkSub b z) with q | q
  · exact absurd q (Nat.ne_of_lt (Nat.lt_of_lt_of_le (Heap.lt_size e) I.ok.above))
  · exact hb q
theorem frs_in {env : Env} {b : Addr} (he : env ∈ l) (hf : env.frame = some b) : b ∈ frs l := List.mem_filterMap.mpr ⟨env, he, hf⟩
theorem Inv.hidden (I : Inv X pins σ H s) : HOk X.prog X.w H (PySem.W.hideAll s.heap (frs X.stack)) := fun a o e => by
  refine (I.hok a o e).stay (fun b u hb q => PySem.W.hideAll_get _ q fun z => ?_) (fun _ q => q) fun _ _ q => q
  have n := I.stkFree b z
  rcases hb with rfl | hb
  · rw [n] at e; cases e
  · rw [n] at hb; cases hb
/-- the frame at hand is on top of the stack, nothing is walked from outside -/
structure Fnc (X : Cx) : Prop where
  ex : X.ex = []
  stk : X.stack = X.env :: X.outer
  fr : X.env.frame = some X.env.locals
theorem CX1.mk {E : XK} {e C : Addr} {a0 : Value} (F : Fnc X) (I : Inv X pins σ H s) (os : s'.os = s.os) (bare : AllBare s'.gens) (u : Un (frs X.stack) [] H H' s.heap s'.heap) (hB : HOk X.prog X.w H' B) (hE : E (.ref C) none H') (hn : H' e = none)
    (fl : Heap.FlyingW B X.outer e (.ref C) a0 s'.heap) (kB : ∀ b o, s.heap.get? b = some o → H b = none → b ∉ frs X.stack → B.get? b = some o) (tB : ∀ b o, s.heap.get? b = some o → b ∉ frs X.stack → ∃ o', B.get? b = some o') :
    CX1 X.prog X.w X.outer X.H₀ X.s₀ E (.ref e) s' := by
  have J : Inv X pins σ H' s' := I.call' (ch := []) os u (hB.kept fl.1) bare fun _ z => absurd z (by simp)
  have ub : Un X.fs X.ex X.H₀ H' X.s₀.heap s'.heap := J.base
  have nx : ∀ b : Addr, b ∉ X.ex := fun b => by rw [F.ex]; simp
  rw [F.ex] at ub
  refine ⟨e, C, H', B, a0, rfl, hE, J.os, J.bare, ub, hB, hn, fl, fun b o q n hb => ?_, fun b o q hb => ?_⟩
  · exact kB b o (I.base.keep b o q n hb (nx b)) (I.base.free b o q n (nx b)) (I.nstk q hb)
  · obtain ⟨o', q'⟩ := I.base.there b o q (nx b)
    exact tB b o' q' (I.nstk q hb)
theorem raises_of {CX : CXT} {E : XK} (F : Fnc X) (hcx : CX = CX1 X.prog X.w) (hxe : X.xe = fun e s' => wpAny (model X.prog X.w) X.A (leaving X.env e) (fun _ s'' => CX X.outer X.H₀ X.s₀ E e s'') (fun e' s'' => CX X.outer X.H₀ X.s₀ E e' s'') s') : Raises X E := by
  intro pins σ H s h' e C args I hx hE
  subst hcx
  rw [hxe]
  have fb := I.stack
  have hl : s.heap.FunFrames (PySem.W.hideAll s.heap (frs X.stack)) (X.env :: X.outer) := by
    rw [F.stk] at fb ⊢
    exact PySem.W.funFrames_hide fb fun env he b hb => frs_in he hb
  refine wpAny_leaves_madeW (base := PySem.W.hideAll s.heap (frs X.stack)) (by rw [I.ok.frames, F.stk]) F.fr (fun b o q => PySem.W.of_hideAll _ q) hl hx fun h'' t fl _ _ up => ?_
  have kB : ∀ b o, s.heap.get? b = some o → b ∉ frs X.stack → (PySem.W.hideAll s.heap (frs X.stack)).get? b = some o := fun b o q n => PySem.W.hideAll_get _ q n
  have hn : H e = none := by
    cases q : H e with
    | none => rfl
    | some o =>
      obtain ⟨ob, z⟩ := (I.hok e o q).obj
      rw [hx.new] at z
      cases z
  have u0 : Un (frs X.stack) [] H H s.heap h' := Un.kept hx.keeps
  have fl' : h'.FunFrames (PySem.W.hideAll s.heap (frs X.stack)) X.stack := by
    rw [F.stk]
    rw [F.stk] at hl
    exact hl.of_keeps fun b o q _ => ⟨o, hx.keeps b o q, rfl⟩
  have u : Un (frs X.stack) [] H H s.heap h'' := un_fly (s' := { s with heap := h' }) u0 fl' (fun b o q _ n => kB b o q n) (fun b o q n => ⟨o, kB b o q n⟩) fl.1 up
  exact CX1.mk (s' := { s with heap := h'' }) F I rfl I.bare u I.hidden hE hn fl (fun b o q _ n => kB b o q n) (fun b o q n => ⟨o, kB b o q n⟩)
theorem passes_of {CX : CXT} {E : XK} (F : Fnc X) (hcx : CX = CX1 X.prog X.w) (hxe : X.xe = fun e s' => wpAny (model X.prog X.w) X.A (leaving X.env e) (fun _ s'' => CX X.outer X.H₀ X.s₀ E e s'') (fun e' s'' => CX X.outer X.H₀ X.s₀ E e' s'') s') : Passes (CX1 X.prog X.w) X E := by
  intro pins σ H s e s' I hc
  subst hcx
  rw [hxe]
  obtain ⟨a, C, H', B, a0, rfl, hE, os, bare, u, hB, hn, fl, kB, tB⟩ := hc
  refine wpAny_leaves_onW (by rw [I.ok.frames, F.stk]) F.fr (by rw [← F.stk]; exact fl) fun h'' fl'' up => ?_
  exact CX1.mk (s' := { s' with heap := h'' }) F I os bare (un_fly u fl.2.2.1 kB tB fl''.1 up) hB hE hn fl'' kB tB
end
/-- THE RULE for a def that may raise -/
theorem Fun.okx {P : Program} {w : World} {K : PySem.W.Frag} {mg : Str → Option Value} {base : Heap} {x qual : Str} {st : Stmt} {f : Addr} {fd : FuncData} {N ps : List Str} {k : Nat} {sp : Sp} (F : Fun K x qual st f fd) (S : FnScope N ps (defScope st)) (len : ∀ vs H Q E, sp vs H Q E → vs.length = ps.length)
    (hbody : ∀ (cdv : Value) (A : Around) (outer : List Env) (s : Shared) (H : Hp) (vs : List V) (Q : VK) (E : XK), Room k (A.deeper (envOfC qual (defScope st) s.heap.objs.size f cdv)) → sp vs H Q E →
      Raises (cxOf (CX1 P w) P w K mg base N qual (defScope st) f cdv A outer s H E) E → Passes (CX1 P w) (cxOf (CX1 P w) P w K mg base N qual (defScope st) f cdv A outer s H E) E →
      ∃ t, PSs (cxOf (CX1 P w) P w K mg base N qual (defScope st) f cdv A outer s H E) (defBody st) t ∧ t { nx := fun _ H' => Q .non H', rt := Q } (start N vs) H) : FnOk P w K mg base (CX1 P w) (k + 1) f fd ps sp := by
  obtain ⟨oc, od, kV, doc, pm, an, cdv, ct, osl, rfl, lk, hcd⟩ := F.ex
  refine fn_of lk hcd S len fun A outer s H vs Q E hr hsp => ?_
  have Fn : Fnc (cxOf (CX1 P w) P w K mg base N qual (defScope st) f cdv A outer s H E) := ⟨rfl, rfl, rfl⟩
  exact hbody cdv A outer s H vs Q E hr hsp (raises_of Fn rfl rfl) (passes_of Fn rfl rfl)
/-- .. with a try in it: the frame is on top -/
theorem Fun.oky {P : Program} {w : World} {K : PySem.W.Frag} {mg : Str → Option Value} {base : Heap} {x qual : Str} {st : Stmt} {f : Addr} {fd : FuncData} {N ps : List Str} {k : Nat} {sp : Sp} (F : Fun K x qual st f fd) (S : FnScope N ps (defScope st)) (len : ∀ vs H Q E, sp vs H Q E → vs.length = ps.length)
    (hbody : ∀ (cdv : Value) (A : Around) (outer : List Env) (s : Shared) (H : Hp) (vs : List V) (Q : VK) (E : XK), Room k (A.deeper (envOfC qual (defScope st) s.heap.objs.size f cdv)) → sp vs H Q E →
      Fnc (cxOf CX0 P w K mg base N qual (defScope st) f cdv A outer s H E).nox →
      ∃ t, PSs (cxOf CX0 P w K mg base N qual (defScope st) f cdv A outer s H E).nox (defBody st) t ∧ t { nx := fun _ H' => Q .non H', rt := Q } (start N vs) H) : FnOk P w K mg base CX0 (k + 1) f fd ps sp :=
  F.ok S len fun cdv A outer s H vs Q E hr hsp => hbody cdv A outer s H vs Q E hr hsp ⟨rfl, rfl, rfl⟩

/-! ### raise C(e, ..) -/
section
variable {X : Cx} {pos np cpos : Pos} {x : Str} {C : Addr} {E : XK} {e : Expr} {es : List Expr} {t : TA}
abbrev bmV : List Value := [.type "ValueError", .type "Exception", .type "BaseException", .type "object"]
theorem exc_obj {K : PySem.W.Frag} {h : Heap} {bmB : List Value} {newId : String} (Y : K.In h) (q : PySem.W.excIn K C bmB newId = true) :
    ∃ bm N nm qn bs hdct sn sub ab col dd k0 k1 k2 k3 k5 mN, h.get? C = some (excClassObj nm qn C N bs bm hdct sn sub ab col dd k0 k1 k2 k3 k5 newId) ∧ h.Ns N mN ∧ mN "__init__" = none ∧ OwnTail h bmB bm := by
  unfold PySem.W.excIn at q
  split at q
  case h_2 => cases q
  rename_i dd cd sl ho
  split at q
  case h_2 => cases q
  rename_i C' bm k0 k1 k2 k3 n k5 hm hs
  rw [Bool.and_eq_true, Bool.and_eq_true, Bool.and_eq_true, Bool.and_eq_true, Bool.and_eq_true, beq_iff_eq, beq_iff_eq, beq_iff_eq, Bool.not_eq_true'] at q
  obtain ⟨⟨⟨⟨⟨e1, e2⟩, e3⟩, e4⟩, e5⟩, e6⟩ := q
  subst e1 e2
  rcases cd with ⟨nm, bs, mro, ns, qn, hd, sn, sub, ab, col, del⟩
  dsimp only at hm e3 e5 e6
  subst hm e3
  have hsl : sl = #[k0, k1, k2, k3, some (.builtin n), k5] := by
    rcases sl with ⟨l⟩
    have hs' : l = _ := hs
    rw [hs']
  subst hsl
  exact ⟨bm, ns, nm, qn, bs, hd, sn, sub, ab, col, dd, k0, k1, k2, k3, k5, _, Y _ _ ho, .of_isNs (PySem.W.isNs_of_in Y e5), PySem.W.nsMap_none_of_in Y e5 e6, PySem.W.tail_of_in Y e4⟩
def tRaise (C : Addr) (E : XK) (t : TA) : TS := fun _ σ H => t σ H fun vs H1 => vs.length ≤ sizeLine ∧ E (.ref C) none H1
theorem ps_raise (hR : Raises X E) (hg : Gl X x) (hm : X.mg x = some (.ref C)) (hC : PySem.W.excIn X.K C bmV "ValueError.__new__" = true) (hc : X.calm = true) (ha : PA X (e :: es) t) (hdb : (x == ("__debug__" : Str)) = false := by decide)
    (he : starEach (e :: es) X.env = (false, eval e X.env) :: starEach es X.env := by rfl) (hpl : (backTo cpos (starEach es X.env)).any (·.1) = false := by rfl) :
    PS X (.Raise (some (.Call (.Name x np) (e :: es) [] cpos)) none pos) (tRaise C E t) := by
  intro pins s σ H D I h
  have hcl := I.ok.mod.kin
  obtain ⟨bm', N', nm', qn', bs', hdct', sn', sub', ab', col', dd', k0', k1', k2', k3', k5', mN', hCb, hNb, hnib, TLb⟩ := exc_obj hcl hC
  refine wpAny_Raise_call_subT (q := qn') (N := N') (bs := bs') (bm := bm') (hdct := hdct') (sn := sn') (sub := sub') (ab := ab') (col := col') (dd := dd') (k0 := k0') (k1 := k1') (k2 := k2') (k3 := k3') (k5 := k5') (nm := nm') (mN := mN') PySem.F.excBase_ValueError
    (TLb.hasType (by decide +kernel)) (I.ok.hd hc) (by rw [he]; show (false || (backTo cpos (starEach es X.env)).any (·.1)) = false; rw [hpl]; rfl) hnib (ld_glob I hg hm ⟨rfl, ?_⟩ hdb)
  have h2 := ha cpos pins s σ H _ I h
  rw [he] at h2 ⊢
  refine Calls.evalArgs_plain (thn h2 fun us s1 ⟨vs, H1, I1, r, hz, hE⟩ => ⟨rfl, by rw [← r.length]; exact hz, I1.bk _ _ hCb, hNb.keeps I1.bk, TLb.keeps I1.bk, fun h' e' hx => ?_⟩)
  exact hR pins σ H1 s1 h' e' C us I1 hx hE
end

/-- a statement that lets no exception go -/
theorem PS.quiet {X : Cx} {st : Stmt} {t : TS} (h : PS X.nox st t) : PS X st t := fun pins s σ H D I hw => wpAny_mono (h pins s σ H D (I.wish _) hw) (fun _ _ q => q.unwish) fun _ _ z => False.elim z
/-! ### f-strings of ints -/
section
variable {X : Cx} {pos : Pos} {e v : Expr} {es : List Expr} {te : TE}
abbrev TJ := Str → St → Hp → VK → Prop
def PJ (X : Cx) (es : List Expr) (t : TJ) : Prop := ∀ (out : Str) (pins : List (Addr × Obj)) (s : Shared) (σ : St) (H : Hp) (Q : VK), Inv X pins σ H s → t out σ H Q → wpAny (model X.prog X.w) X.A (joinParts out (evalEach es X.env)) (EP X pins σ Q) X.xe s
def tJn : TJ := fun out _ H Q => out.length ≤ sizeLine ∧ Q (.str out) H
def tJc (te : TE) (tr : TJ) : TJ := fun out σ H Q => te σ H fun x H1 => ∃ y, x = .str y ∧ (out ++ y).length ≤ sizeLine ∧ tr (out ++ y) σ H1 Q
theorem pj_nil : PJ X [] tJn := fun out pins s σ H Q I h => joinParts_nil ⟨.str out, H, I.tok _, ⟨_, rfl⟩, h.2⟩ h.1
theorem pj_cons {tr : TJ} (he : PE X e te) (hr : PJ X es tr) : PJ X (e :: es) (tJc te tr) := by
  intro out pins s σ H Q I h
  show wpAny _ _ (joinParts out (eval e X.env :: evalEach es X.env)) _ _ _
  refine joinParts_cons (thn (he pins s σ H _ I h) fun u s1 ⟨x, H1, I1, r1, y, ex, hz, q1⟩ => ?_)
  subst ex
  obtain ⟨tk, rfl⟩ := r1
  exact ⟨hz, hr (out ++ y) pins s1 σ H1 Q I1 q1⟩
theorem pe_fstr {v2 : Expr} {t : TJ} (h : PJ X (e :: v2 :: es) t) : PE X (.JoinedStr (e :: v2 :: es) pos) (fun σ H Q => t Str.empty σ H Q) := fun pins s σ H Q I hq => JoinedStr_many (h Str.empty pins s σ H Q I hq)
theorem pe_fint (hv : PE X v te) : PE X (.FormattedValue v (-1) none pos) (fun σ H Q => te σ H fun x H1 => ∃ i, x = .int i ∧ i.natAbs.log2 < 1920 ∧ Q (.str (toString i)) H1) := by
  intro pins s σ H Q I h
  refine FormattedValue_plain (thn (hv pins s σ H _ I h) fun u s1 ⟨x, H1, I1, r1, i, ex, hz, q1⟩ => ?_)
  subst ex
  obtain ⟨tk, rfl⟩ := r1
  exact formatField_int_small hz ⟨.str _, H1, I1.tok _, ⟨_, rfl⟩, q1⟩
end

/-! ### f(e, ..), f a name that holds a def -/
section
variable {X : Cx} {CX : CXT} {ps : List Str} {sp : Sp} {E : XK} {x : Str} {p pos : Pos} {e : Expr} {es : List Expr} {t : TA} {i : Nat}
end
end L2
/-! ### isinstance of an exception that is held -/
namespace L2
open PySem PySem.Calls PyProof.Rows PySem.W Builtin Builtin.ObjectAttr Builtin.Getset_descriptor
/-- what is known of a class of exceptions -/
structure XC (K : Frag) (C : Addr) : Prop where
  cl : (clsIn K C).isSome = true
  ga : findIn K (.ref C) "__getattribute__" = some (some (.builtin "BaseException.__getattribute__"))
  gt : findIn K (.ref C) "__getattr__" = some none
  ca : findIn K (.ref C) "__class__" = some (some (.builtin "object.__class__"))
  gn : specialIn K (.builtin "object.__class__") "__get__" = some (some (.builtin "getset_descriptor.__get__"))
  tk : takesIn K (.builtin "object.__class__") = some true
  ob : mroIn K C (.type "object") = some true
  be : mroIn K C (.type "BaseException") = some true
section
variable {prog : Program} {w : World} {A : Around} {E : Value → Shared → Prop} {K : Frag} {x C : Addr} {h : Heap} {g : Array GenState} {d : Drawn} {t : Nat} {os : OsState}
theorem xc_look {M : Model} {o : Obj} (e : h.get? x = some o) (c : o.cls = .ref C) : Looks M h (typeOf (.ref x)) (.ref C) := c ▸ (Looks.ld e).andThen .now
theorem xc_get {R : Result → Shared → Prop} {tp : Value} (Y : K.In h) (F : XC K C) (LT : ∀ M : Model, Looks M h (typeOf (.ref x)) (.ref C)) (q : R (.ok (.ret (.ref C))) ⟨h, g, d, t, os⟩) :
    codeAny (model prog w) A (.call (.builtin "getset_descriptor.__get__") ⟨[.builtin "object.__class__", .ref x, tp], []⟩) R ⟨h, g, d, t, os⟩ := by
  have L0 := LT (model prog w)
  have L1 := looks_mroIn (M := model prog w) Y F.ob
  refine codeAny_call_builtin KF.slot_gs.plain KF.entry_gs (KF.slot_gs.check _ _ _ _ _ _ _ _ KF.type_class (KF.args_gs _ _ _) ?_)
  unfold Builtin.«getset_descriptor.__get__» descrGet
  rw [dga_obj]
  refine wpAny_bind (wpAny_pure ?_)
  unfold descrGetter descrCheckInstance descrNameAndClass isInstance
  simp only [KF.owner_class]
  repeat lk
  refine ⟨Code.quiet_builtin _ (by decide +kernel), codeAny_builtin KF.entry_class ?_⟩
  unfold Builtin.«object.__class__» shownTypeOf
  repeat lk
  exact q
theorem xc_find {M : Model} (Y : K.In h) (F : XC K C) : Looks M h (find (.ref x) (.ref C) "__class__") (.bind (.builtin "getset_descriptor.__get__") (.builtin "object.__class__")) := by
  have L1 := looks_findIn (M := M) Y F.ca
  have L2 : Looks M h (getOf (some (.builtin "object.__class__"))) (some (.builtin "getset_descriptor.__get__")) := looks_specialIn Y F.gn
  have L3 := looks_takesIn (M := M) Y F.tk
  exact L1.andThen (L2.andThen ((show Looks M h (dataDescriptor? (some (.builtin "object.__class__")) (some (.builtin "getset_descriptor.__get__"))) (some (.builtin "getset_descriptor.__get__", .builtin "object.__class__")) from L3.andThen .now).andThen (Looks.tag .now)))
theorem xc_entry {tk : Tok} {Q : Fin → Shared → Prop} (Y : K.In h) (F : XC K C) (LT : ∀ M : Model, Looks M h (typeOf (.ref x)) (.ref C)) (q : Q (.done (.ret (.ref C))) ⟨h, g, d, t, os⟩) :
    wpAny (model prog w) A (Builtin.«object.__getattribute__» ⟨[.ref x, .str "__class__" tk], []⟩) Q E ⟨h, g, d, t, os⟩ := by
  have L0 := LT (model prog w)
  have L1 := xc_find (x := x) (M := model prog w) Y F
  refine wpAny_bind (wpAny_pure (wpAny_bind (wpAny_pure (wpAny_bind (L0.at (wpAny_bind (L1.at ?_)))))))
  show wpAny _ _ (holding [.builtin "object.__class__"] (call (.builtin "getset_descriptor.__get__") [.builtin "object.__class__", .ref x, .ref C]) >>= ret) _ _ _
  exact wpAny_bind (wpAny_holding (wpAny_call (xc_get Y F LT (wpAny_pure q))))
theorem xc_check {nameV : Value} {M : Model} {Q : Unit → Shared → Prop} (Y : K.In h) (F : XC K C) (LT : ∀ M : Model, Looks M h (typeOf (.ref x)) (.ref C)) (q : Q () ⟨h, g, d, t, os⟩) :
    wpAny M A (checkBuiltinCall "BaseException.__getattribute__" ⟨[.ref x, nameV], []⟩) Q E ⟨h, g, d, t, os⟩ := by
  have e1 : builtinKind "BaseException.__getattribute__" = some .slot := by decide +kernel
  have e2 : splitId "BaseException.__getattribute__" = some ("BaseException", "__getattribute__") := by decide +kernel
  have ha := PySem.F.args_bexc_ga (.ref x) nameV
  have L0 := LT M
  have L1 := looks_mroIn (M := M) Y F.be
  simp only [checkBuiltinCall, e1, e2]
  refine wpAny_bind ?_
  unfold isInstance
  repeat (first | lk | wp_step)
  exact q
theorem xc_attr {Q : Option Value → Shared → Prop} (Y : K.In h) (F : XC K C) (LT : ∀ M : Model, Looks M h (typeOf (.ref x)) (.ref C)) (q : Q (some (.ref C)) ⟨h, g, d, t + 1, os⟩) : wpAny (model prog w) A (getAttr? (.ref x) "__class__") Q E ⟨h, g, d, t, os⟩ := by
  have L0 := LT (model prog w)
  have L1 := looks_findIn (M := model prog w) Y F.ga
  have L2 := looks_findIn (M := model prog w) Y F.gt
  have e2 : (Value.builtin "BaseException.__getattribute__" == Value.builtin "object.__getattribute__") = false := by decide +kernel
  have e1 : (onTheHeap (Value.ref C) && Value.builtin "BaseException.__getattribute__" == Value.builtin "object.__getattribute__") = false := by rw [e2]; rfl
  have f3 := PySem.F.excAttr_ValueError.ga.bind (.ref x)
  unfold getAttr? getAttrBy? getAttrBy
  refine wpAny_bind (wpAny_mkText (wpAny_bind (wpAny_attempt (wpAny_holding (wpAny_bind (L0.at (wpAny_bind (L1.at ?_))))))))
  dsimp only
  rw [e1]
  simp only [Bool.false_eq_true, if_false]
  repeat (any_goals (first | assumption | with_reducible refine L2.at ?_ | wp_step))
  refine codeAny_call_builtin PySem.F.excAttr_ValueError.ga.plain PySem.F.entry_bexc_ga (xc_check Y F LT (xc_entry Y F LT ?_))
  repeat (any_goals (first | assumption | lk | wp_step))
theorem kitx_exc (F : XC K C) : KitX K (.ref x) (.ref C) (fun h => ∃ o, h.get? x = some o ∧ o.cls = .ref C) where
  ty := fun _ _ _ ⟨_, e, c⟩ => xc_look e c
  it := fun _ _ Y _ => by
    have z := F.cl
    unfold clsIn at z
    split at z
    · rename_i ho
      intro A' Q' E' s' k q
      unfold isType loadHead
      exact wpAny_bind (wpAny_loadPart (k _ _ (Y _ _ ho)) (wpAny_pure q))
    · cases z
  ne := fun h tp dd its n sl Y htp => by
    have z := F.cl
    unfold clsIn at z
    split at z
    · rename_i ho
      refine Bool.eq_false_iff.mpr fun q => ?_
      have e : C = tp := Value.ref.inj (beq_iff_eq.mp q)
      subst e
      have y := (Y _ _ ho).symm.trans htp
      cases y
    · cases z
  ca := fun {_ _ _ _ _ s} Y ⟨_, e, c⟩ k => by
    obtain ⟨hh, g, d, t, os⟩ := s
    exact xc_attr Y F (fun M => xc_look e c) k
end
/-- the exception at a, of the class at C -/
def excO (C a : Addr) : HO := .ext fun h => ∃ o, h.get? a = some o ∧ o.cls = .ref C
theorem excO_ok {P : Program} {w : World} {H : Hp} {h : Heap} {a C : Addr} (e : ∃ o, h.get? a = some o ∧ o.cls = .ref C) : ObjOk P w H h a (excO C a) :=
  ⟨e, e.elim fun o q => ⟨o, q.1⟩, fun _ _ ⟨o, q, c⟩ k => ⟨o, k o q, c⟩⟩
/-- a class, as isinstance takes it -/
def clsV : V → Option Value
  | .ty n => some (.type n)
  | .ref c => some (.ref c)
  | _ => none
theorem clsV_rel {v : V} {c u : Value} (e : clsV v = some c) (r : RelV v u) : u = c := by
  cases v <;> first | (cases e; exact r) | cases e
section
variable {X : Cx}
theorem call_isx : CallR X (.builtin "isinstance") (fun xs H Q => ∃ a C v c b, xs = [.ref a, v] ∧ H a = some (excO C a) ∧ XC X.K C ∧ clsV v = some c ∧ kitOne X.K (.ref C) c = some b ∧ Q (.bl b) H) := by
  intro pins s σ H xs us Q I r h
  obtain ⟨a, C, v, c, b, rfl, ha, F, ev, e, q⟩ := h
  obtain ⟨u, w', rfl, ru, rw'⟩ := vals2 r
  obtain rfl : u = Value.ref a := ru
  obtain rfl := clsV_rel ev rw'
  exact kia_one (kitx_exc F) I.kIn (I.hok a _ ha).1 e (fun z => nomatch z) fun tk => ⟨.bl b, H, I.tok tk, rfl, q⟩
theorem call_isxK {K : Frag} (hK : X.K = K) : CallR X (.builtin "isinstance") (fun xs H Q => ∃ a C v c b, xs = [.ref a, v] ∧ H a = some (excO C a) ∧ XC K C ∧ clsV v = some c ∧ kitOne K (.ref C) c = some b ∧ Q (.bl b) H) := hK ▸ call_isx
end
end L2
/-! ### try: .. except C as n: .. -/
namespace L2
open PySem PySem.Spec PyProof.Rows PySem.W
/-- the context within a try's body; within an except's suite -/
abbrev Cx.inTry (X : Cx) (pn : List (Addr × Obj)) (z : Value → Shared → Prop) : Cx := { X with pn := pn, xe := z }
abbrev Cx.inSuite (X : Cx) (e : Addr) : Cx := { X with A := X.A.mark (some (.ref e)), calm := false, xe := fun _ _ => False }
/-- all names forgotten -/
def nones (σ : St) : St := σ.map fun _ => none
theorem nones_none {σ : St} {i : Nat} {v : V} (h : (nones σ)[i]? = some (some v)) : False := by
  unfold nones at h
  rw [List.getElem?_map] at h
  cases e : σ[i]? with
  | none => rw [e] at h; cases h
  | some a => rw [e] at h; cases h
section
variable {X : Cx} {pins pn : List (Addr × Obj)} {σ : St} {H H' : Hp} {s s' : Shared} {z : Value → Shared → Prop} {e : Addr}
theorem Inv.toTry (I : Inv X pins σ H s) : Inv (X.inTry (X.pn ++ pins) z) [] σ H s :=
  ⟨⟨I.ok.mod, I.ok.kind, I.ok.glob, I.ok.blt, I.ok.above, I.ok.inj, I.ok.has, I.ok.cab, I.ok.hd, I.ok.frames, I.ok.stk, I.ok.exf, I.ok.bs, I.ok.bsz, I.ok.noex, I.ok.exfs, I.ok.funs, I.ok.frf⟩,
    I.os, I.bare, I.base, I.loc, I.cell, I.free, I.freeC, fun p hp => I.pin p (by rw [List.append_nil] at hp; exact hp), I.hok, I.len⟩
theorem Inv.unTry {pins' : List (Addr × Obj)} (I : Inv (X.inTry (X.pn ++ pins) z) pins' σ H s) : Inv X pins σ H s :=
  ⟨⟨I.ok.mod, I.ok.kind, I.ok.glob, I.ok.blt, I.ok.above, I.ok.inj, I.ok.has, I.ok.cab, I.ok.hd, I.ok.frames, I.ok.stk, I.ok.exf, I.ok.bs, I.ok.bsz, I.ok.noex, I.ok.exfs, I.ok.funs, I.ok.frf⟩,
    I.os, I.bare, I.base, I.loc, I.cell, I.free, I.freeC, fun p hp => I.pin p (List.mem_append_left _ hp), I.hok, I.len⟩
theorem Inv.toSuite (I : Inv X pins σ H s) : Inv (X.inSuite e) pins σ H s :=
  ⟨⟨I.ok.mod, I.ok.kind, I.ok.glob, I.ok.blt, I.ok.above, I.ok.inj, I.ok.has, I.ok.cab, fun q => absurd q Bool.false_ne_true, I.ok.frames, I.ok.stk, I.ok.exf, I.ok.bs, I.ok.bsz, I.ok.noex, I.ok.exfs, I.ok.funs, I.ok.frf⟩,
    I.os, I.bare, I.base, I.loc, I.cell, I.free, I.freeC, I.pin, I.hok, I.len⟩
theorem Inv.unSuite (hd : X.calm = true → X.A.handled = none) (I : Inv (X.inSuite e) pins σ H s) : Inv X pins σ H s :=
  ⟨⟨I.ok.mod, I.ok.kind, I.ok.glob, I.ok.blt, I.ok.above, I.ok.inj, I.ok.has, I.ok.cab, hd, I.ok.frames, I.ok.stk, I.ok.exf, I.ok.bs, I.ok.bsz, I.ok.noex, I.ok.exfs, I.ok.funs, I.ok.frf⟩,
    I.os, I.bare, I.base, I.loc, I.cell, I.free, I.freeC, I.pin, I.hok, I.len⟩
theorem SP.unTry {D : Ends} {f : Flow} (h : SP (X.inTry (X.pn ++ pins) z) [] D f s') : SP X pins D f s' := by
  cases f with
  | next => obtain ⟨σ', H', I, q⟩ := h; exact ⟨σ', H', I.unTry, q⟩
  | brk => obtain ⟨σ', H', I, q⟩ := h; exact ⟨σ', H', I.unTry, q⟩
  | cont => obtain ⟨σ', H', I, q⟩ := h; exact ⟨σ', H', I.unTry, q⟩
  | ret u => obtain ⟨v, σ', H', I, r, q⟩ := h; exact ⟨v, σ', H', I.unTry, r, q⟩
/-- the frame's names change anyhow -/
theorem Inv.goes {h' : Heap} {m' : Str → Option Value} {t' : Nat} (I : Inv X pins σ H s) (hn : h'.Ns X.env.locals m') (hs : Heap.SameBut X.env.locals s.heap h') : Inv X pins (nones σ) H { s with heap := h', toks := t' } := by
  have lt : ∀ {b : Addr} {o : Obj}, X.s₀.heap.get? b = some o → b ≠ X.env.locals := fun e => Nat.ne_of_lt (Nat.lt_of_lt_of_le (Heap.lt_size e) I.ok.above)
  refine ⟨I.ok, I.os, I.bare, ⟨fun b o e n hb hx => ?_, fun b o e n hb hx => ?_, I.base.free, fun b o e hx => ?_, I.base.tups, I.base.frzs, I.base.tbls⟩, ⟨m', hn, fun i x v _ e2 _ => (nones_none e2).elim⟩, fun y c e => ?_, I.free, I.freeC, fun p hp => ?_, fun b ob e => ?_, ?_⟩
  · exact (hs.2 b (lt e)).trans (I.base.keep b o e n hb hx)
  · obtain ⟨sl, e1⟩ := I.base.slot b o e n hb hx
    exact ⟨sl, (hs.2 b (lt e)).trans e1⟩
  · obtain ⟨o', e1⟩ := I.base.there b o e hx
    exact ⟨o', (hs.2 b (lt e)).trans e1⟩
  · obtain ⟨w', q⟩ := I.cell y c e
    exact ⟨w', q.sameBut hs (I.cne y c e)⟩
  · obtain ⟨e, n, ne, nf, d⟩ := I.pin p hp
    exact ⟨(hs.2 p.1 ne).trans e, n, ne, nf, d⟩
  · refine (I.hok b ob e).stay (fun c v hc q => (hs.2 c fun ec => ?_).trans q) (fun _ q => q) fun _ _ q => q
    have fr := I.free
    rw [← ec] at fr
    rcases hc with rfl | hc
    · rw [fr] at e; cases e
    · rw [fr] at hc; cases hc
  · unfold nones
    rw [List.length_map]
    exact I.len
theorem Inv.nones (I : Inv X pins σ H s) : Inv X pins (L2.nones σ) H s := I.weak (by unfold L2.nones; rw [List.length_map]) fun i v e => (nones_none e).elim
/-- an exception that is held is tracked -/
theorem Inv.hold {C : Addr} (I : Inv X pins σ H s) (hn : H e = none) (hL : e ≠ X.env.locals) (hnew : X.s₀.heap.get? e = none ∧ (∀ x c, X.env.cells.lookup x = some c → c ≠ e) ∧ (∀ p ∈ X.pn ++ pins, p.1 ≠ e)) (ho : ∃ o, s.heap.get? e = some o ∧ o.cls = .ref C) :
    Inv X pins σ (upd H e (excO C e)) s := by
  obtain ⟨n0, nc, np⟩ := hnew
  have ne0 : ∀ {b : Addr} {o : Obj}, X.s₀.heap.get? b = some o → b ≠ e := fun {b o} q z => by rw [z, n0] at q; cases q
  have neh : ∀ {b : Addr} {o : HO}, H b = some o → b ≠ e := fun q => ne_of_none q hn
  refine ⟨I.ok, I.os, I.bare, ⟨I.base.keep, I.base.slot, fun b o q n hx => ?_, I.base.there, fun b xs q => ?_, fun b o u q => ?_, fun b ps q => ?_⟩, I.loc, I.cell, ?_, fun x c q => ?_, fun p hp => ?_, fun b o q => ?_, I.len⟩
  · rw [upd_ne (ne0 q)]; exact I.base.free b o q n hx
  · have z := I.base.tups b xs q
    rw [upd_ne (neh z)]; exact z
  · have z := I.base.frzs b o u q
    rw [upd_ne (neh z)]; exact z
  · obtain ⟨more, z⟩ := I.base.tbls b ps q
    exact ⟨more, by rw [upd_ne (neh z)]; exact z⟩
  · rw [upd_ne (Ne.symm hL)]; exact I.free
  · rw [upd_ne (nc x c q)]; exact I.freeC x c q
  · obtain ⟨a1, a2, a3⟩ := I.pin p hp
    exact ⟨a1, by rw [upd_ne (np p hp)]; exact a2, a3⟩
  · by_cases hb : b = e
    · subst hb
      rw [upd_same] at q
      cases q
      exact excO_ok ho
    · rw [upd_ne hb] at q
      exact (I.hok b o q).stay (fun _ _ _ q => q) (fun c q => by rw [upd_ne (neh q)]; exact q) fun c xs q => by rw [upd_ne (neh q)]; exact q
end
/-- D with all names forgotten behind a suite -/
def Ends.forget (D : Ends) (n : Nat) : Ends := { nx := fun _ H => D.nx (List.replicate n none) H, rt := D.rt, bk := fun _ H => D.bk (List.replicate n none) H, ct := fun _ H => D.ct (List.replicate n none) H }
theorem nones_rep {σ : St} : nones σ = List.replicate σ.length none := by
  unfold nones
  induction σ with
  | nil => rfl
  | cons a r ih => rw [List.map_cons, ih, List.length_cons, List.replicate_succ]
def tTry (K : Frag) (hc : Addr) (i n : Nat) (tb : XK → TS) (ts : TS) : TS := fun D σ H => ∃ E : XK, tb E D σ H ∧
  ∀ (C e : Addr) (H' : Hp), E (.ref C) none H' → H' e = none → exmOne K (.ref C) (.ref hc) = some true ∧ ts (D.forget n) ((List.replicate n none).set i (some (.ref e))) (upd H' e (excO C e))
theorem ps_try {X : Cx} {x n : Str} {hc : Addr} {i len : Nat} {body suite : List Stmt} {b₀ : Stmt} {tb : XK → TS} {ts : TS} {np hpos pos : Pos} (F : Fnc X) (hl : X.N.length = len) (hN : X.N.Nodup) (hi : X.N[i]? = some n) (hx : Loc X.env.scope n) (hloc : X.env.kindOf n = some .local) (hg : Gl X x) (hm : X.mg x = some (.ref hc))
    (hb : ∀ (E : XK) pn z, Passes (CX1 X.prog X.w) (X.inTry pn z) E → PSs (X.inTry pn z) body (tb E)) (hs : ∀ e, PSs (X.inSuite e) (b₀ :: suite) ts) (hf : X.fn n = true ∨ X.env.scope.names.lookup n = some .local := by first | exact .inl rfl | exact .inr rfl) (hdb : (x == ("__debug__" : Str)) = false := by decide) :
    PS X (.Try body [.ExceptHandler (some (.Name x np)) (some n) (b₀ :: suite) hpos] [] [] pos) (tTry X.K hc i len tb ts) := by
  intro pins s σ H D I ⟨E, hw, hE⟩
  have hP : Passes (CX1 X.prog X.w) (X.inTry (X.pn ++ pins) fun e s' => ∃ σ' H s, Inv X pins σ' H s ∧ CX1 X.prog X.w X.stack H s E e s') E := fun pins' σ' H1 s1 e s' J q => ⟨σ', H1, s1, J.unTry, q⟩
  refine wpAny_Try_except (wpAny_mono (hb E _ _ hP [] s σ H D I.toTry hw) (fun f s1 q => ?_) fun ev s1 q => ?_)
  · have q' := SP.unTry q
    cases f with
    | next => exact wpAny_execs_nil q'
    | ret u => exact q'
    | brk => exact q'
    | cont => exact q'
  obtain ⟨σ1, H1, s0, I0, a, C, H', B, a0, rfl, hEE, os, bare, u, hB, hn, fl, kB, tB⟩ := q
  obtain ⟨hmt, hts⟩ := hE C a H' hEE hn
  have nfr : a ∉ frs X.stack := fun z => by
    obtain ⟨_, o, e1, d⟩ := fl.2.2.1.mem z
    obtain ⟨oe, vs, e2, _, dd, _⟩ := fl.first
    rw [e1] at e2
    cases e2
    exact d _ dd
  have at_ : ∀ {h5 : Heap}, B.StaysIn h5 → s1.heap.UpToSlots h5 → Inv X pins σ1 H' { s1 with heap := h5 } := fun {h5} st up =>
    I0.call' (s' := { s1 with heap := h5 }) (ch := []) os (un_fly u fl.2.2.1 kB tB st up) (hB.kept st) bare fun _ z => absurd z (by simp)
  have bn := fl.2.1
  have new0 : s0.heap.get? a = none := by
    cases q : s0.heap.get? a with
    | none => rfl
    | some o =>
      obtain ⟨o', z⟩ := tB a o q nfr
      rw [bn] at z
      cases z
  have hnL : a ≠ X.env.locals := fun z => nfr (by rw [F.stk, z]; exact frs_in (List.mem_cons_self ..) F.fr)
  have new : X.s₀.heap.get? a = none ∧ (∀ x c, X.env.cells.lookup x = some c → c ≠ a) ∧ (∀ p ∈ X.pn ++ pins, p.1 ≠ a) := by
    refine ⟨?_, fun y c q z => ?_, fun p hp z => ?_⟩
    · cases q : X.s₀.heap.get? a with
      | none => rfl
      | some o =>
        obtain ⟨o', z⟩ := I0.base.there a o q (by rw [F.ex]; simp)
        rw [new0] at z
        cases z
    · obtain ⟨v, o, q1, _⟩ := I0.cell y c q
      rw [z, new0] at q1
      cases q1
    · have q1 := (I0.pin p hp).1
      rw [z, new0] at q1
      cases q1
  refine wpAny_looks_onW (by rw [I.ok.frames, F.stk]) F.fr (by rw [← F.stk]; exact fl) fun h4 held4 up4 => ?_
  refine wpAny_landsW held4 fun h5 fl5 up5 => ?_
  have I5 : Inv (X.inSuite a) pins σ1 H' { s1 with heap := h5 } := (at_ fl5.1 (up4.trans up5)).toSuite
  refine wpAny_handleBy_cons (codeAny_handlers_test (ld_glob I5 hg hm ?_ hdb)) (by intro q; cases q)
  obtain ⟨ob, ho, hcl⟩ := fl5.there
  refine (exm_one (K := X.K) I5.kIn (xc_look ho hcl) hmt).here ?_
  refine codeAny_handlers_suite_as ?_
  refine lands_againW fl5 fun h6 fl6 up6 => ?_
  obtain ⟨ob6, ho6, hcl6⟩ := fl6.there
  have I6 : Inv X pins (nones σ1) (upd H' a (excO C a)) { s1 with heap := h6 } := ((at_ fl6.1 ((up4.trans up5).trans up6)).nones).hold hn hnL new ⟨ob6, ho6, hcl6⟩
  have es : (nones σ1) = List.replicate len none := by rw [nones_rep, I0.len, hl]
  rw [es] at I6
  refine store_ok (X := X.inSuite a) (v := .ref a) I6.toSuite hN hi hx rfl (fun s7 I7 => ?_) hf
  refine wpAny_mono (hs a pins s7 _ _ _ I7 hts) (fun f s8 q => ?_) fun _ _ z => z.elim
  have go : ∀ {σ8 : St} {H8 : Hp}, Inv (X.inSuite a) pins σ8 H8 s8 → (∀ s9, Inv X pins (List.replicate len none) H8 s9 → SP X pins D f s9) →
      wpAny (model X.prog X.w) X.A (do bindName X.env n .none; unbindBehindTheSuite X.env n hpos) (fun _ s9 => SP X pins D f s9) X.xe s8 := fun {σ8 H8} I8 k => by
    obtain ⟨m, hns, _⟩ := I8.loc
    refine wpAny_nameGoes hloc hns (by rw [I.ok.kind]; rfl) fun h9 m9 hn9 hs9 => ?_
    have J := (Inv.unSuite I.ok.hd I8).goes (t' := s8.toks + 1) hn9 hs9
    have e8 : (nones σ8) = List.replicate len none := by rw [nones_rep, I8.len]; exact congrArg (fun k => List.replicate k none) hl
    rw [e8] at J
    exact k _ J
  cases f with
  | next => obtain ⟨σ8, H8, I8, q⟩ := q; exact go I8 fun s9 J => ⟨_, _, J, q⟩
  | brk => obtain ⟨σ8, H8, I8, q⟩ := q; exact go I8 fun s9 J => ⟨_, _, J, q⟩
  | cont => obtain ⟨σ8, H8, I8, q⟩ := q; exact go I8 fun s9 J => ⟨_, _, J, q⟩
  | ret u => obtain ⟨v, σ8, H8, I8, r, q⟩ := q; exact go I8 fun s9 J => ⟨v, _, _, J, r, q⟩
end L2
/-! ### for x in range(hi, lo, -1) -/
namespace L2
open PySem PySem.Spec PyProof.Rows
def Itd (hi : Int) (n : Nat) : It := ⟨fun i _ => i < n, fun i H x H' => H' = H ∧ x = .int (hi - i), fun i _ => n ≤ i⟩
theorem turn_down {P : Program} {w : World} {K : PySem.W.Frag} {tg : Expr} (it : Addr) (hi : Int) (n : Nat) : Turn P w K tg (Itd hi n) [it] it (fun i h => IsRangeIter h it (hi + (i : Nat) * (-1)) ((n : Int) - (i : Nat)) (-1)) where
  mem := by simp
  obj := fun i h st b hb => by
    obtain rfl : b = it := by simpa using hb
    exact ⟨_, st, fun v z => by cases (show Data.fields _ = Data.cell v from z)⟩
  keep := fun i h h' st k => k it (by simp) _ st
  item := by
    intro X hP hw hK hc i pins s σ H E I hf st hg
    subst hP hw hK
    obtain ⟨f0, f1, f2, f3, f4, f5⟩ := hf it (by simp)
    refine (Walks.range (prog := X.prog) (w := X.w) (I.ok.hd hc) it hi (-1) n).item i s _ _ hg st fun v h' tk hv st' kk => ?_
    obtain ⟨t, rfl⟩ := hv
    have I1 : Inv X pins σ H { s with heap := h', toks := tk } := I.turned (fun b o hb e => kk b o (by simpa using hb) e) f0 f1 f3 f4 f5
    refine ⟨_, rfl, go_of (s := { s with heap := h', toks := tk }) (n := "range_iterator") st' rfl rfl (by decide) ⟨.int (hi - i), H, I1, ⟨t, ?_⟩, ⟨rfl, rfl⟩, st', fun b hb => (hf b hb).1⟩⟩
    rw [show hi + (i : Int) * (-1) = hi - i by omega]
  done := by
    intro X hP hw hK hc i pins s σ H E I hf st hg
    subst hP hw hK
    obtain ⟨f0, f1, f2, f3, f4, f5⟩ := hf it (by simp)
    exact wpAny_pyNext_range_end (I.ok.hd hc) st (by have : n ≤ i := hg; omega) fun h' eb => ⟨rfl, I.turned (t' := s.toks) (fun b o hb e => eb b o hb e) f0 f1 f3 f4 f5⟩
  self := fun _ _ _ _ _ st h => wpAny_pyIter_rangeiter st h
theorem rangeSize_down (a b : Int) : Builtin.Range.rangeSize a b (-1) = if a > b then a - b else 0 := by
  unfold Builtin.Range.rangeSize
  rw [if_neg (by decide)]
  split
  · rw [show -(-1 : Int) = 1 by decide, Int.ediv_one]; omega
  · rfl
theorem small_down {a b : Int} (ha : -(2 ^ 62) ≤ a) (ha' : a < 2 ^ 62) (hb : -(2 ^ 62) ≤ b) (hb' : b < 2 ^ 62) : Builtin.Range.small a b (-1) = true := by
  unfold Builtin.Range.small
  rw [rangeSize_down]
  simp only [Builtin.Range.rangeFitsLong, Bool.and_eq_true, Bool.or_eq_true, decide_eq_true_eq, beq_iff_eq, show ((-1 : Int) > 0) = False by simp, if_false]
  split <;> omega
section
variable {X : Cx} {tg : Expr}
theorem down_it {pins : List (Addr × Obj)} {σ : St} {H : Hp} {s : Shared} {R : It → Hp → Prop} {E : Value → Shared → Prop} {hi lo : Int} {t u v : Tok} {tk : Nat} (I : Inv X pins σ H s) (h1 : -(2 ^ 62) ≤ hi) (h2 : hi < 2 ^ 62) (h3 : -(2 ^ 62) ≤ lo) (h4 : lo < 2 ^ 62)
    (q : R (Itd hi (hi - lo).toNat) H) : wpAny (model X.prog X.w) X.A (pyIter (.ref s.heap.objs.size)) (PIE X pins σ tg R) E { s with heap := s.heap.push { cls := .type "range", data := .fields #[.int hi t, .int lo u, .int (-1) v] }, toks := tk } := by
  refine wpAny_pyIter_range (IsRange.new ..) (small_down h1 h2 h3 h4) ?_
  generalize hg : s.heap.push { cls := .type "range", data := .fields #[.int hi t, .int lo u, .int (-1) v] } = g
  have I1 : Inv X pins σ H { s with heap := g, toks := tk } := I.kept fun b o e => by rw [← hg]; exact Heap.get?_push_of_some _ e
  refine ⟨g.objs.size, [g.objs.size], _, _, H, rfl, I1.kept (t' := tk) fun b o e => Heap.get?_push_of_some _ e, turn_down _ hi (hi - lo).toNat, ?_, fun b hb => ?_, q⟩
  · have e1 : hi + ((0 : Nat) : Int) * (-1) = hi := by simp
    have e2 : (((hi - lo).toNat : Nat) : Int) - ((0 : Nat) : Int) = Builtin.Range.rangeSize hi lo (-1) := by rw [rangeSize_down]; split <;> omega
    show IsRangeIter _ _ (hi + ((0 : Nat) : Int) * (-1)) ((((hi - lo).toNat : Nat) : Int) - ((0 : Nat) : Int)) (-1)
    rw [e1, e2]
    exact Heap.get?_push_size _ rfl
  · obtain rfl : b = g.objs.size := by simpa using hb
    exact I1.fpOk (Nat.le_refl _) (I1.hok.fresh (Nat.le_refl _))
def iDown (ta : TA) : TI := fun σ H R => ta σ H fun vs H1 => ∃ i j : Int, vs = [.int i, .int j, .int (-1)] ∧ (-(2 ^ 62) ≤ i ∧ i < 2 ^ 62 ∧ -(2 ^ 62) ≤ j ∧ j < 2 ^ 62) ∧ R (Itd i (i - j).toNat) H1
theorem pi_down {a b c : Expr} {ta : TA} {p pos : Pos} (hg : Gl X "range") (hm : X.mg "range" = none) (ha : PA X [a, b, c] ta) (hs : starEach [a, b, c] X.env = (false, eval a X.env) :: starEach [b, c] X.env := by rfl) (hs2 : (backTo pos (starEach [b, c] X.env)).any (·.1) = false := by rfl) :
    PI X tg (.Call (.Name "range" p) [a, b, c] [] pos) (iDown ta) := by
  intro pins s σ H R I h
  refine Call_ (ld_blt I hg hm boot_range (PyProof.Rows.callWith_type1 (thn (ha pos pins s σ H _ I h) fun us s1 ⟨vs, H1, I1, r1, q1⟩ => ?_) hs hs2))
  obtain ⟨i, j, e, ⟨q1, q2, q3, q4⟩, q⟩ := q1
  subst e
  cases r1 with
  | cons r rr =>
    cases rr with
    | cons r' rr =>
      cases rr with
      | cons r2 rr =>
        cases rr
        obtain ⟨t, rfl⟩ := r
        obtain ⟨t', rfl⟩ := r'
        obtain ⟨t2, rfl⟩ := r2
        exact call_range_3 (by decide) (down_it I1 q1 q2 q3 q4 q) (.inl (PyProof.noPylong_small (by decide)))
end
theorem for_down {hi : Int} {n : Nat} {g : TG} {tb : TS} {D : Ends} {σ : St} {H : Hp} (Pv : Nat → St → Hp → Prop) (h0 : Pv 0 σ H)
    (hs : ∀ i σ H, i < n → Pv i σ H → g (.int (hi - i)) σ H fun σ2 H2 => tb { D with nx := Pv (i + 1), ct := Pv (i + 1), bk := D.nx } σ2 H2) (hd : ∀ σ H, Pv n σ H → D.nx σ H) :
    ∃ W : Nat → Nat → St → Hp → Prop, (∃ m, W 0 m σ H) ∧ ∀ i m σ H, W i m σ H →
      ((Itd hi n).stop i H ∧ D.nx σ H) ∨ ((Itd hi n).go i H ∧ ∃ N : St → Hp → Prop, (∀ σ' H', N σ' H' → ∃ m', m' < m ∧ W (i + 1) m' σ' H') ∧ ∀ x H', (Itd hi n).yld i H x H' → g x σ H' fun σ2 H2 => tb { D with nx := N, ct := N, bk := D.nx } σ2 H2) := by
  refine ⟨fun i m σ H => m = n - i ∧ i ≤ n ∧ Pv i σ H, ⟨n, by simp, Nat.zero_le _, h0⟩, ?_⟩
  rintro i m σ H ⟨rfl, hi', p⟩
  by_cases hlt : i < n
  · refine .inr ⟨hlt, Pv (i + 1), fun σ' H' p' => ⟨n - (i + 1), by omega, rfl, hlt, p'⟩, fun x H' y => ?_⟩
    obtain ⟨e, y⟩ := y
    subst e y
    exact hs i σ _ hlt p
  · obtain rfl : i = n := by omega
    exact .inl ⟨Nat.le_refl _, hd σ H p⟩
end L2
/-! ### any thing as a degree, and its bounds -/
namespace L2
open PySem PySem.Spec PyProof.Rows
def Thing (H : Hp) (v : V) : Prop := (∃ i, v = .int i) ∨ (∃ b, v = .bl b) ∨ v = .non ∨ (∃ x, v = .str x) ∨ (∃ a xs, v = .ref a ∧ H a = some (.lst xs)) ∨ (∃ a xs, v = .ref a ∧ H a = some (.tup xs))
def isI (v : V) : Bool := match v with
  | .int _ => true
  | _ => false
def Within (lo hi : Int) (v : V) : Prop := ∃ i, v = .int i ∧ lo ≤ i ∧ i ≤ hi
theorem within_int {lo hi : Int} {v : V} (h : Within lo hi v) : isI v = true := by obtain ⟨i, rfl, _⟩ := h; rfl
theorem kit_none_int {K : PySem.W.Frag} : PySem.W.kitOne K (.type "NoneType") (.type "int") = some false := kit_of (by decide +kernel) (by decide +kernel) (by decide +kernel)
theorem kit_str_int {K : PySem.W.Frag} : PySem.W.kitOne K (.type "str") (.type "int") = some false := kit_of (by decide +kernel) (by decide +kernel) (by decide +kernel)
theorem kit_list_int {K : PySem.W.Frag} : PySem.W.kitOne K (.type "list") (.type "int") = some false := kit_of (by decide +kernel) (by decide +kernel) (by decide +kernel)
theorem kit_tuple_int {K : PySem.W.Frag} : PySem.W.kitOne K (.type "tuple") (.type "int") = some false := kit_of (by decide +kernel) (by decide +kernel) (by decide +kernel)
def sp_whole : Sp := fun vs H Q _ => ∃ v, vs = [v] ∧ Thing H v ∧ Q (.bl (isI v)) H
/-- the bounds that are asked -/
def Bnds (lo hi : Int) : Prop := (lo = 1 ∧ hi = 5) ∨ (lo = 1 ∧ hi = 4) ∨ (lo = 0 ∧ hi = 6) ∨ (lo = 0 ∧ hi = 2)
def spBet (c : Addr) : Sp := fun vs H Q E => ∃ v lo hi, vs = [v, .int lo, .int hi] ∧ Thing H v ∧ Bnds lo hi ∧ (Within lo hi v → Q .non H) ∧ (¬ Within lo hi v → E (.ref c) none H)
def spDeg (c : Addr) : Sp := fun vs H Q E => ∃ v, vs = [v] ∧ Thing H v ∧ (Within 1 5 v → Q .non H) ∧ (¬ Within 1 5 v → E (.ref c) none H)
theorem at_pt {ps : List Pt} {i : Int} {j : Nat} {p : Pt} (e : i = j) (h : ps[j]? = some p) : atI (ps.map pt) i = some (pt p) := ix_D e (by rw [List.getElem?_map, h]; rfl)
end L2
/-! ### for x, y in zip(xs, ys) -/
namespace L2
open PySem PySem.Spec PyProof.Rows
section
variable {X : Cx} {pins : List (Addr × Obj)} {σ : St} {H : Hp} {s : Shared} {h' : Heap} {ch : List Addr} {t' : Nat}
end
section
variable {X : Cx} {elts : List Expr} {k : Nat} {tpos p pos : Pos} {e f : Expr} {te tf : TE}
end
end L2
/-! ### less than -/
namespace PySem.SeqAt
open AutoSeq1 (wpAny_loadPart')
open MeetsSeq MeetsSeq2 MeetsSeq3 SeqRoads2
def LtAt (A : Around) (s : Shared) (y x : Value) (b : Bool) : Prop :=
  ∀ (prog : Program) (w : World) (E : Value → Shared → Prop) (Q : Value → Shared → Prop), Q (.bool b) s → wpAny (model prog w) A (richCompare .Lt y x) Q E s
/-- by the first place that differs -/
def lex (e f : Nat → Bool) (m n : Nat) : Nat → Nat → Bool
  | 0, _ => decide (m < n)
  | k + 1, i => if e i = true then lex e f m n k (i + 1) else f i
theorem lt_loopAt (l b : Addr) (items items2 : Array Value) (n n2 : Nat) (dd dd2 : Option Addr) (sl sl2 : Array (Option Value)) (e f : Nat → Bool) (k : Nat) :
    ∀ i : Nat, min items.size items2.size - i = k → Meets (Builtin.«list.__eq__.loop» ⟨[.ref l, .ref b, rawInt i, rawInt 0], []⟩)
      (fun A R s => s.heap.get? l = some { cls := .type "list", dict := dd, data := .seq items n, slots := sl } ∧ s.heap.get? b = some { cls := .type "list", dict := dd2, data := .seq items2 n2, slots := sl2 } ∧
        (∀ j (h1 : j < items.size) (h2 : j < items2.size), EqAt A.in1 s items[j] items2[j] (e j)) ∧ (∀ j (h1 : j < items.size) (h2 : j < items2.size), e j = false → LtAt A.in1 s items[j] items2[j] (f j)) ∧
        R (.ok (.ret (.bool (lex e f items.size items2.size k i)))) s) := by
  induction k with
  | zero =>
    intro i hk prog w A R s h
    obtain ⟨hp, g, d, tk, os⟩ := s; obtain ⟨hl, hb, he, hf, h⟩ := h
    wp_walk using wpAny_loadPart' hl, wpAny_loadPart' hb
    rcases (by omega : items.size ≤ i ∨ (i < items.size ∧ items2.size ≤ i)) with q | ⟨q1, q2⟩
    · have hi1 : items[((i : Nat) : Int).toNat]? = none := by simp; omega
      rw [hi1]
      wp_walk using wpAny_loadPart' hl, wpAny_loadPart' hb
      exact h
    · have hi1 : items[((i : Nat) : Int).toNat]? = some items[i] := by simp [q1]
      have hi2 : items2[((i : Nat) : Int).toNat]? = none := by simp; omega
      rw [hi1, hi2]
      wp_walk using wpAny_loadPart' hl, wpAny_loadPart' hb
      exact h
  | succ k ih =>
    intro i hk prog w A R s h
    obtain ⟨hp, g, d, tk, os⟩ := s; obtain ⟨hl, hb, he, hf, h⟩ := h
    wp_walk using wpAny_loadPart' hl, wpAny_loadPart' hb
    have hlt : i < items.size := by omega
    have hlt2 : i < items2.size := by omega
    have hi1 : items[((i : Nat) : Int).toNat]? = some items[i] := by simp [hlt]
    have hi2 : items2[((i : Nat) : Int).toNat]? = some items2[i] := by simp [hlt2]
    have hc : ((i : Int) + 1) = ((i + 1 : Nat) : Int) := by push_cast; rfl
    unfold lex at h
    rw [hi1, hi2]
    refine wpAny_bind (he i hlt hlt2 prog w _ _ ?_)
    cases hb' : e i with
    | true =>
      rw [hb', if_pos rfl] at h
      wp_walk
      rw [hc]
      exact ⟨plainId_quiet plain_eq_loop _, codeAny_builtin entry_eq_loop (by
        rw [Around.under_plainId plain_eq_loop _]
        exact ih (i + 1) (by omega) prog w A R _ ⟨hl, hb, he, hf, h⟩)⟩
    | false =>
      rw [hb', if_neg (by simp)] at h
      wp_walk using wpAny_loadPart' hl, wpAny_loadPart' hb
      rw [hi1, hi2]
      refine wpAny_bind (hf i hlt hlt2 hb' prog w _ _ ?_)
      wp_walk
      exact h
theorem list_ltAt (l b : Addr) (items items2 : Array Value) (n n2 : Nat) (dd dd2 : Option Addr) (sl sl2 : Array (Option Value)) (e f : Nat → Bool) :
    Meets (Builtin.«list.__lt__» ⟨[.ref l, .ref b], []⟩)
      (fun A R s => s.heap.get? l = some { cls := .type "list", dict := dd, data := .seq items n, slots := sl } ∧ s.heap.get? b = some { cls := .type "list", dict := dd2, data := .seq items2 n2, slots := sl2 } ∧
        (∀ j (h1 : j < items.size) (h2 : j < items2.size), EqAt A.in1 s items[j] items2[j] (e j)) ∧ (∀ j (h1 : j < items.size) (h2 : j < items2.size), e j = false → LtAt A.in1 s items[j] items2[j] (f j)) ∧
        R (.ok (.ret (.bool (lex e f items.size items2.size (min items.size items2.size) 0)))) s) := by
  intro prog w A R s h
  obtain ⟨hp, g, d, tk, os⟩ := s; obtain ⟨hl, hb, he, hf, h⟩ := h
  have f3 := AutoSeq1.sub_list_list
  wp_walk using wpAny_loadPart' hl, wpAny_loadPart' hb
  exact ⟨plainId_quiet plain_eq_loop _, codeAny_builtin entry_eq_loop (by
    rw [Around.under_plainId plain_eq_loop _]
    exact lt_loopAt l b items items2 n n2 dd dd2 sl sl2 e f _ 0 rfl prog w A R _ ⟨hl, hb, he, hf, by simpa using h⟩)⟩
theorem tuple_ltAt (l b : Addr) (items items2 : Array Value) (n n2 : Nat) (dd dd2 : Option Addr) (sl sl2 : Array (Option Value)) (e f : Nat → Bool) :
    Meets (Builtin.«tuple.__lt__» ⟨[.ref l, .ref b], []⟩)
      (fun A R s => s.heap.get? l = some { cls := .type "tuple", dict := dd, data := .seq items n, slots := sl } ∧ s.heap.get? b = some { cls := .type "tuple", dict := dd2, data := .seq items2 n2, slots := sl2 } ∧
        (∀ j (h1 : j < items.size) (h2 : j < items2.size), EqAt A.in1 s items[j] items2[j] (e j)) ∧ (∀ j (h1 : j < items.size) (h2 : j < items2.size), e j = false → LtAt A.in1 s items[j] items2[j] (f j)) ∧
        R (.ok (.ret (.bool (lex e f items.size items2.size (min items.size items2.size) 0)))) s) :=
  .of_wp fun prog w A R s h => by
    obtain ⟨hp, g, d, tk, os⟩ := s; obtain ⟨hl, hb, he, hf, h⟩ := h
    have f2 := AutoSeq1.sub_tuple_tuple
    have hZ : (items.toList.zip items2.toList).length = min items.size items2.size := by simp
    wp_walk using wpAny_loadPart' hl, wpAny_loadPart' hb, wpAny_forIn_list _ (fun rest b s' => b.1 = none ∧ s' = ⟨hp, g, d, tk, os⟩ ∧ ∃ i, rest = (items.toList.zip items2.toList).drop i ∧ i ≤ min items.size items2.size ∧
      R (.ok (.ret (.bool (lex e f items.size items2.size (min items.size items2.size - i) i)))) ⟨hp, g, d, tk, os⟩) _
    case turn =>
      rintro ⟨y, x⟩ rest b s' ⟨hb', rfl, i, hz, hile, hR⟩
      have hlt : i < (items.toList.zip items2.toList).length := by
        rcases Nat.lt_or_ge i (items.toList.zip items2.toList).length with h' | h'
        · exact h'
        · rw [List.drop_of_length_le h'] at hz; cases hz
      have hm : i < min items.size items2.size := hZ ▸ hlt
      have h1 : i < items.size := Nat.lt_of_lt_of_le hm (Nat.min_le_left _ _)
      have h2 : i < items2.size := Nat.lt_of_lt_of_le hm (Nat.min_le_right _ _)
      rw [List.drop_eq_getElem_cons hlt] at hz
      injection hz with hyx hrest
      have hy : y = items[i] := by have := congrArg Prod.fst hyx; simpa using this
      have hx : x = items2[i] := by have := congrArg Prod.snd hyx; simpa using this
      subst hy hx
      rw [show min items.size items2.size - i = (min items.size items2.size - (i + 1)) + 1 by omega, lex] at hR
      refine wpAny_bind (he i h1 h2 prog w _ _ ?_)
      cases hy : e i with
      | true =>
        rw [hy, if_pos rfl] at hR
        wp_walk
        exact ⟨rfl, rfl, i + 1, hrest, by omega, hR⟩
      | false =>
        rw [hy, if_neg (by simp)] at hR
        rw [if_pos (show (!false) = true from rfl)]
        refine wpAny_bind (wpAny_rule ?_)
        refine wpAny_bind (hf i h1 h2 hy prog w _ _ ?_)
        wp_walk
        exact ⟨_, rfl, hR⟩
    case fin =>
      rintro ⟨b1, b2⟩ s' ⟨hb', rfl, i, hz, hile, hR⟩
      simp only at hb'
      subst hb'
      have hi : i = min items.size items2.size := by
        rcases Nat.lt_or_ge i (items.toList.zip items2.toList).length with h' | h'
        · rw [List.drop_eq_getElem_cons h'] at hz; cases hz
        · omega
      subst hi
      rw [Nat.sub_self] at hR
      wp_walk
      exact ⟨_, rfl, hR⟩
    case h =>
      exact ⟨rfl, rfl, 0, rfl, Nat.zero_le _, by simpa using h⟩
section
variable {A : Around} {s : Shared}
theorem LtAt.int_int (i : Int) (t : Tok) (j : Int) (u : Tok) : LtAt A s (.int i t) (.int j u) (decide (i < j)) := fun prog w E Q h => wpAny_lt_int h
theorem LtAt.lists {l b : Addr} {items items2 : Array Value} {e f : Nat → Bool} (hl : s.heap.IsList l items) (hb : s.heap.IsList b items2) (hu : A.units < cLine)
    (he : ∀ j (h1 : j < items.size) (h2 : j < items2.size), EqAt A.in1 s items[j] items2[j] (e j)) (hf : ∀ j (h1 : j < items.size) (h2 : j < items2.size), e j = false → LtAt A.in1 s items[j] items2[j] (f j)) :
    LtAt A s (.ref l) (.ref b) (lex e f items.size items2.size (min items.size items2.size) 0) := fun prog w E Q h => by
  obtain ⟨⟨cls, dd, data, sl⟩, ho, hc, n, hd⟩ := id hl
  obtain ⟨⟨cls2, dd2, data2, sl2⟩, ho2, hc2, n2, hd2⟩ := id hb
  simp only at hc hd hc2 hd2
  subst hc hd hc2 hd2
  exact richCompare_meets_room (op := .Lt) ⟨_, ho, rfl⟩ ⟨_, ho2, rfl⟩ F.slot_list_lt F.entry_list_lt (F.args_list_lt_2 _ _) (list_ltAt l b items items2 n n2 dd dd2 sl sl2 e f)
    ⟨ho, ho2, he, hf, show Value.bool (lex e f items.size items2.size (min items.size items2.size) 0) ≠ Value.notImplemented ∧ Q (.bool (lex e f items.size items2.size (min items.size items2.size) 0)) s from ⟨(fun x => nomatch x), h⟩⟩ hu
theorem LtAt.tuples {l b : Addr} {items items2 : Array Value} {e f : Nat → Bool} (hl : s.heap.IsTuple l items) (hb : s.heap.IsTuple b items2) (hu : A.units < cLine)
    (he : ∀ j (h1 : j < items.size) (h2 : j < items2.size), EqAt A.in1 s items[j] items2[j] (e j)) (hf : ∀ j (h1 : j < items.size) (h2 : j < items2.size), e j = false → LtAt A.in1 s items[j] items2[j] (f j)) :
    LtAt A s (.ref l) (.ref b) (lex e f items.size items2.size (min items.size items2.size) 0) := fun prog w E Q h => by
  obtain ⟨⟨cls, dd, data, sl⟩, ho, hc, n, hd⟩ := id hl
  obtain ⟨⟨cls2, dd2, data2, sl2⟩, ho2, hc2, n2, hd2⟩ := id hb
  simp only at hc hd hc2 hd2
  subst hc hd hc2 hd2
  exact richCompare_meets_room (op := .Lt) ⟨_, ho, rfl⟩ ⟨_, ho2, rfl⟩ F.slot_tuple_lt F.entry_tuple_lt (F.args_tuple_lt_2 _ _) (tuple_ltAt l b items items2 n n2 dd dd2 sl sl2 e f)
    ⟨ho, ho2, he, hf, show Value.bool (lex e f items.size items2.size (min items.size items2.size) 0) ≠ Value.notImplemented ∧ Q (.bool (lex e f items.size items2.size (min items.size items2.size) 0)) s from ⟨(fun x => nomatch x), h⟩⟩ hu
/-- the sort's own question of two lists -/
theorem key_lists {prog : Program} {w : World} {E : Value → Shared → Prop} {l b : Addr} {items items2 : Array Value} {e f : Nat → Bool} {Q : Bool → Shared → Prop} (hl : s.heap.IsList l items) (hb : s.heap.IsList b items2) (hu : A.units < cLine)
    (he : ∀ j (h1 : j < items.size) (h2 : j < items2.size), EqAt A.in1 s items[j] items2[j] (e j)) (hf : ∀ j (h1 : j < items.size) (h2 : j < items2.size), e j = false → LtAt A.in1 s items[j] items2[j] (f j))
    (h : Q (lex e f items.size items2.size (min items.size items2.size) 0) s) : wpAny (model prog w) A (PyProof.Rows.keyLt' PyProof.Rows.oneType' (.ref l) (.ref b)) Q E s := by
  rw [PyProof.Rows.keyLt'_oneType, PyProof.Rows.oneLt'_eq]
  simp only [if_true]
  refine wpAny_bind (wpAny_cRoomFor hu ?_)
  obtain ⟨⟨cls, dd, data, sl⟩, ho, hc, n, hd⟩ := id hl
  obtain ⟨⟨cls2, dd2, data2, sl2⟩, ho2, hc2, n2, hd2⟩ := id hb
  simp only at hc hd hc2 hd2
  subst hc hd hc2 hd2
  refine wpAny_bind (wpAny_callSpecialIfBound?_slot (T := "list") ⟨_, ho, rfl⟩ F.slot_list_lt (call_meets F.slot_list_lt ⟨_, ho, rfl⟩ F.entry_list_lt (F.args_list_lt_2 _ _) (list_ltAt l b items items2 n n2 dd dd2 sl sl2 e f) ⟨ho, ho2, he, hf, ?_⟩))
  exact wpAny_truthy_bool h
end
end PySem.SeqAt
/-! ### < of ints, lists, tuples at any depth -/
namespace L2
open PySem PySem.Spec PyProof.Rows
/-- what < tells, d deep -/
inductive LtR (K : PySem.W.Frag) (H : Hp) : Nat → V → V → Bool → Prop where
  | int (d : Nat) (i j : Int) : LtR K H d (.int i) (.int j) (decide (i < j))
  | lists {d : Nat} {a b : Addr} {xs ys : List V} (es fs : Nat → Bool) (h1 : SqL K H a xs) (h2 : SqL K H b ys) (he : ∀ (j : Nat) x y, xs[j]? = some x → ys[j]? = some y → EqR K H d x y (es j)) (hf : ∀ (j : Nat) x y, xs[j]? = some x → ys[j]? = some y → es j = false → LtR K H d x y (fs j)) :
    LtR K H (d + 1) (.ref a) (.ref b) (SeqAt.lex es fs xs.length ys.length (min xs.length ys.length) 0)
  | tuples {d : Nat} {a b : Addr} {xs ys : List V} (es fs : Nat → Bool) (h1 : SqT K H a xs) (h2 : SqT K H b ys) (he : ∀ (j : Nat) x y, xs[j]? = some x → ys[j]? = some y → EqR K H d x y (es j)) (hf : ∀ (j : Nat) x y, xs[j]? = some x → ys[j]? = some y → es j = false → LtR K H d x y (fs j)) :
    LtR K H (d + 1) (.ref a) (.ref b) (SeqAt.lex es fs xs.length ys.length (min xs.length ys.length) 0)
section
variable {X : Cx} {pins : List (Addr × Obj)} {σ : St} {H : Hp} {s : Shared}
theorem rel_at {xs : List V} {is : List Value} {j : Nat} (r : Vals xs is) (q : j < is.toArray.size) : ∃ x, xs[j]? = some x ∧ RelV x is.toArray[j] := by
  have l := r.length
  have q' : j < is.length := by simpa using q
  have hx : xs[j]? = some xs[j] := List.getElem?_eq_getElem (by omega)
  obtain ⟨u, e, ru⟩ := r.get hx
  refine ⟨_, hx, ?_⟩
  have g : is.toArray[j] = u := by
    rw [List.getElem?_eq_getElem q'] at e
    simpa using Option.some.inj e
  rw [g]
  exact ru
theorem LtR.at_ (I : Inv X pins σ H s) {d : Nat} {x y : V} {b : Bool} (h : LtR X.K H d x y b) : ∀ {A : Around} {u v : Value}, A.units + d < cLine → RelV x u → RelV y v → SeqAt.LtAt A s u v b := by
  induction h with
  | int d i j =>
    intro A u v hu ru rv
    obtain ⟨t, rfl⟩ := ru
    obtain ⟨t', rfl⟩ := rv
    exact SeqAt.LtAt.int_int i t j t'
  | @lists d a b xs ys es fs h1 h2 he hf ih =>
    intro A u v hu ru rv
    obtain rfl : u = Value.ref a := ru
    obtain rfl : v = Value.ref b := rv
    obtain ⟨is, r1, p1, z1⟩ := I.list h1
    obtain ⟨js, r2, p2, z2⟩ := I.list h2
    have l1 : xs.length = is.toArray.size := by have := r1.length; simpa using this
    have l2 : ys.length = js.toArray.size := by have := r2.length; simpa using this
    rw [l1, l2]
    refine SeqAt.LtAt.lists p1.isList p2.isList (by omega) (fun j q1 q2 => ?_) (fun j q1 q2 z => ?_)
    · obtain ⟨x, hx, rx⟩ := rel_at r1 q1
      obtain ⟨y, hy, ry⟩ := rel_at r2 q2
      exact ((he j _ _ hx hy).at_ I (by rw [units_in1]; omega) rx ry).2.2
    · obtain ⟨x, hx, rx⟩ := rel_at r1 q1
      obtain ⟨y, hy, ry⟩ := rel_at r2 q2
      exact ih j _ _ hx hy z (by rw [units_in1]; omega) rx ry
  | @tuples d a b xs ys es fs h1 h2 he hf ih =>
    intro A u v hu ru rv
    obtain rfl : u = Value.ref a := ru
    obtain rfl : v = Value.ref b := rv
    obtain ⟨is, r1, p1, z1⟩ := I.tuple h1
    obtain ⟨js, r2, p2, z2⟩ := I.tuple h2
    have l1 : xs.length = is.toArray.size := by have := r1.length; simpa using this
    have l2 : ys.length = js.toArray.size := by have := r2.length; simpa using this
    rw [l1, l2]
    refine SeqAt.LtAt.tuples (show s.heap.IsTuple a is.toArray from p1) (show s.heap.IsTuple b js.toArray from p2) (by omega) (fun j q1 q2 => ?_) (fun j q1 q2 z => ?_)
    · obtain ⟨x, hx, rx⟩ := rel_at r1 q1
      obtain ⟨y, hy, ry⟩ := rel_at r2 q2
      exact ((he j _ _ hx hy).at_ I (by rw [units_in1]; omega) rx ry).2.2
    · obtain ⟨x, hx, rx⟩ := rel_at r1 q1
      obtain ⟨y, hy, ry⟩ := rel_at r2 q2
      exact ih j _ _ hx hy z (by rw [units_in1]; omega) rx ry
/-- the sort's question of two lists -/
theorem LtR.key (I : Inv X pins σ H s) {d : Nat} {a b : Addr} {xs ys : List V} {es fs : Nat → Bool} (h1 : SqL X.K H a xs) (h2 : SqL X.K H b ys) (he : ∀ (j : Nat) x y, xs[j]? = some x → ys[j]? = some y → EqR X.K H d x y (es j)) (hf : ∀ (j : Nat) x y, xs[j]? = some x → ys[j]? = some y → es j = false → LtR X.K H d x y (fs j))
    {A : Around} (hu : A.units + (d + 1) < cLine) {prog : Program} {w : World} {E : Value → Shared → Prop} {Q : Bool → Shared → Prop} (q : Q (SeqAt.lex es fs xs.length ys.length (min xs.length ys.length) 0) s) :
    wpAny (model prog w) A (keyLt' oneType' (.ref a) (.ref b)) Q E s := by
  obtain ⟨is, r1, p1, z1⟩ := I.list h1
  obtain ⟨js, r2, p2, z2⟩ := I.list h2
  have l1 : xs.length = is.toArray.size := by have := r1.length; simpa using this
  have l2 : ys.length = js.toArray.size := by have := r2.length; simpa using this
  rw [l1, l2] at q
  refine SeqAt.key_lists p1.isList p2.isList (by omega) (fun j q1 q2 => ?_) (fun j q1 q2 z => ?_) q
  · obtain ⟨x, hx, rx⟩ := rel_at r1 q1
    obtain ⟨y, hy, ry⟩ := rel_at r2 q2
    exact ((he j _ _ hx hy).at_ I (by rw [units_in1]; omega) rx ry).2.2
  · obtain ⟨x, hx, rx⟩ := rel_at r1 q1
    obtain ⟨y, hy, ry⟩ := rel_at r2 q2
    exact (hf j _ _ hx hy z).at_ I (by rw [units_in1]; omega) rx ry
end
end L2
/-! ### min, max of a list of ints; all, any of a list of truths -/
namespace L2
open PySem PySem.Spec PyProof.Rows
section
variable {X : Cx}
/-- x *= e, ints -/
def ipM : TIp := fun x y H Q => ∃ i j, x = .int i ∧ y = .int j ∧ CMul i j ∧ Q (.int (i * j)) H
theorem ip_mult : PIp X .Mult ipM := by
  intro pins s σ H x y v u Q I r1 r2 h
  obtain ⟨i, j, e1, e2, c, q⟩ := h
  subst e1; subst e2
  obtain ⟨t, rfl⟩ := r1
  obtain ⟨t', rfl⟩ := r2
  exact imul_int ⟨.int _, H, I.tok _, ⟨_, rfl⟩, q⟩ c.ok
end
end L2
/-! ### list(range(a, b)) -/
namespace L2
open PySem PySem.Spec PyProof.Rows
section
variable {X : Cx} {a b : Expr} {ta : TA} {p1 p2 p3 pos : Pos}
def rngL (i : Int) (n : Nat) : List V := (List.range n).map fun k : Nat => V.int (i + (k : Int))
theorem vals_rng {i : Int} : ∀ (n : Nat) (acc : List Value) (o : Nat), acc.length = n → (∀ k v, acc[k]? = some v → ∃ t, v = Value.int (i + (o + k : Nat) * 1) t) → Vals ((List.range' o n).map fun k : Nat => V.int (i + (k : Int))) acc
  | 0, acc, o, h, _ => by
    obtain rfl : acc = [] := List.length_eq_zero_iff.mp h
    exact .nil
  | n + 1, acc, o, h, hv => by
    cases acc with
    | nil => simp at h
    | cons v acc =>
      rw [List.range'_succ, List.map_cons]
      obtain ⟨t, rfl⟩ := hv 0 v rfl
      refine .cons ⟨t, by congr 1; simp⟩ (vals_rng n acc (o + 1) (by simpa using h) fun k v e => ?_)
      obtain ⟨t, e2⟩ := hv (k + 1) v (by simpa using e)
      exact ⟨t, by rw [e2]; congr 1; omega⟩
end
end L2
/-! ### tuples of ints -/
namespace L2
open PySem PySem.Spec PyProof.Rows
/-- a tuple of ints -/
def tI (xs : List Int) : D := .t (xs.map .i)
theorem iss_ints {H : Hp} : ∀ {xs : List Int} {vs : List V}, Iss H (xs.map .i) vs → vs = xs.map V.int
  | [], vs, h => h
  | x :: xs, vs, h => by
    obtain ⟨u, us, rfl, h1, h2⟩ := h
    rw [of_i h1, iss_ints h2]
    rfl
theorem ints_iss {H : Hp} : ∀ (xs : List Int), Iss H (xs.map .i) (xs.map V.int)
  | [] => rfl
  | x :: xs => ⟨_, _, rfl, is_i, ints_iss xs⟩
theorem of_tI {H : Hp} {xs : List Int} {v : V} (h : Is H (tI xs) v) : ∃ a, v = .ref a ∧ H a = some (.tup (xs.map V.int)) := by
  obtain ⟨a, vs, rfl, ha, hi⟩ := of_t h
  rw [iss_ints hi] at ha
  exact ⟨a, rfl, ha⟩
theorem is_tI {H : Hp} {xs : List Int} {a : Addr} (h : H a = some (.tup (xs.map V.int))) : Is H (tI xs) (.ref a) := is_t h (ints_iss xs)
end L2
/-! ### sorted(xs) of a list of tuples of ints, fewer than 64: some order of them, by the kit's own tree of the sort -/
namespace L2
open PySem PySem.Spec PyProof.Rows PySem.W
section
variable {n : Nat}
/-- the places in some order -/
def Ord (n : Nat) (p : Array Nat) : Prop := p.Perm (List.range n).toArray
theorem Ord.size {p : Array Nat} (h : Ord n p) : p.size = n := by
  have := (Array.perm_iff_toList_perm.mp h).length_eq
  simpa using this
theorem Ord.lt {p : Array Nat} (h : Ord n p) {i : Nat} (hi : i ∈ p.toList) : i < n := by
  have := (Array.perm_iff_toList_perm.mp h).mem_iff.mp hi
  simpa using this
theorem Ord.bubble {p : Array Nat} (h : Ord n p) (i j : Nat) : Ord n (PyProof.Rows.bubble p i j) := (bubble_perm p i j).trans h
theorem Ord.kas {p : Array Nat} (h : Ord n p) (i j : Nat) : Ord n (kas_rev p i j) := (mirror_perm p i j _).trans h
theorem Ord.getD {p : Array Nat} (h : Ord n p) (hn : 0 < n) (i : Nat) : p.getD i 0 < n := by
  by_cases hi : i < p.size
  · have e : p.getD i 0 = p[i] := by simp [Array.getD, hi]
    rw [e]
    exact h.lt (by simp)
  · have e : p.getD i 0 = 0 := by simp [Array.getD, hi]
    rw [e]
    exact hn
/-- every way through the tree asks of places and ends in R -/
def Leaves (n : Nat) {α : Type} (R : α → Prop) : KasT α → Prop
  | .ret a => R a
  | .ask i j k => i < n ∧ j < n ∧ ∀ b, Leaves n R (k b)
theorem Leaves.bind {α β : Type} {R : α → Prop} {R' : β → Prop} {f : α → KasT β} (hf : ∀ a, R a → Leaves n R' (f a)) : ∀ {t : KasT α}, Leaves n R t → Leaves n R' (t.bind f)
  | .ret a, h => hf a h
  | .ask i j k, h => ⟨h.1, h.2.1, fun b => Leaves.bind hf (h.2.2 b)⟩
theorem Leaves.wp {α : Type} {R : α → Prop} {cmp : Nat → Nat → (Bool → Shared → Prop) → Shared → Prop} {Q : α → Shared → Prop} {s : Shared} (hc : ∀ i j, i < n → j < n → ∃ b, ∀ C : Bool → Shared → Prop, C b s → cmp i j C s) (hq : ∀ a, R a → Q a s) : ∀ {t : KasT α}, Leaves n R t → t.kasWp cmp Q s
  | .ret a, h => hq a h
  | .ask i j k, h => by
    obtain ⟨b, hb⟩ := hc i j h.1 h.2.1
    exact hb _ (Leaves.wp hc hq (h.2.2 b))
variable (hn : 0 < n)
include hn
theorem lv_asc {p : Array Nat} (h : Ord n p) : ∀ f m, Leaves n (fun _ => True) (kas_asc p f m)
  | 0, m => trivial
  | f + 1, m => ⟨h.getD hn _, h.getD hn _, fun b => by
    cases b with
    | true => exact trivial
    | false => exact lv_asc h f (m + 1)⟩
theorem lv_desc : ∀ (f : Nat) (p : Array Nat) (m q : Nat), Ord n p → Leaves n (fun r => Ord n r.1) (kas_desc f p m q)
  | 0, p, m, q, h => h
  | f + 1, p, m, q, h => ⟨h.getD hn _, h.getD hn _, fun b => by
    cases b with
    | true =>
      show Leaves n _ (if q > 0 then kas_desc f (kas_rev p (m - (q + 1)) m) (m + 1) 0 else kas_desc f p (m + 1) 0)
      by_cases hq : q > 0
      · rw [if_pos hq]; exact lv_desc f _ _ _ (h.kas _ _)
      · rw [if_neg hq]; exact lv_desc f _ _ _ h
    | false =>
      refine (show Leaves n _ (KasT.ask (p.getD (m - 1) 0) (p.getD m 0) fun d => if d = true then KasT.ret (p, m, q) else kas_desc f p (m + 1) (q + 1)) from ⟨h.getD hn _, h.getD hn _, fun b => ?_⟩)
      cases b with
      | true => exact h
      | false => exact lv_desc f _ _ _ h⟩
theorem lv_tail {p : Array Nat} (h : Ord n p) (m k : Nat) : Leaves n (fun r => Ord n r.2) (kas_tail3 m k p) := by
  unfold kas_tail3
  refine Leaves.bind (fun a _ => ?_) (lv_asc hn (h.kas 0 m) _ _)
  exact h.kas 0 m
theorem lv_part {p : Array Nat} (h : Ord n p) (m k : Nat) : Leaves n (fun r => Ord n r.2) (kas_descPart m k p) := by
  refine (lv_desc hn _ _ _ _ h).bind fun r hr => ?_
  by_cases hq : r.2.2 > 0
  · rw [if_pos hq]; exact lv_tail hn (hr.kas _ _) _ _
  · rw [if_neg hq]; exact lv_tail hn hr _ _
theorem lv_count {p : Array Nat} (h : Ord n p) (k : Nat) : Leaves n (fun r => Ord n r.2) (kas_count k p) := by
  refine (lv_asc hn h _ _).bind fun m _ => ?_
  by_cases h1 : (m == k) = true
  · rw [if_pos h1]; exact h
  · rw [if_neg h1]
    by_cases h2 : m > 1
    · rw [if_pos h2]
      refine ⟨h.getD hn _, h.getD hn _, fun b => ?_⟩
      cases b with
      | true => exact h
      | false => exact lv_part hn (h.kas _ _) _ _
    · rw [if_neg h2]; exact lv_part hn h _ _
theorem lv_place {p : Array Nat} (h : Ord n p) (k : Nat) : ∀ f l r, Leaves n (fun _ => True) (kas_place p k f l r)
  | 0, l, r => trivial
  | f + 1, l, r => by
    unfold kas_place
    by_cases h1 : l ≥ r
    · rw [if_pos h1]; exact trivial
    · rw [if_neg h1]
      refine ⟨h.getD hn _, h.getD hn _, fun b => ?_⟩
      cases b with
      | true => exact lv_place h k f _ _
      | false => exact lv_place h k f _ _
theorem lv_bin : ∀ (f : Nat) (p : Array Nat) (k : Nat), Ord n p → Leaves n (Ord n) (kas_bin f p k)
  | 0, p, k, h => h
  | f + 1, p, k, h => (lv_place hn h k _ _ _).bind fun l _ => lv_bin f _ _ (h.bubble _ _)
theorem lv_sort : Leaves n (Ord n) (kas_sort n) := by
  refine (lv_count hn (show Ord n (List.range n).toArray from Array.Perm.refl _) n).bind fun r hr => ?_
  by_cases h : r.1 < n
  · rw [if_pos h]; exact lv_bin hn _ _ _ hr
  · rw [if_neg h]; exact hr
end
section
variable {prog : Program} {w : World} {A : Around} {E : Value → Shared → Prop} {s : Shared}
def valAt (vs : List Value) (i : Nat) : Keyed := (vs.getD i .none, vs.getD i .none)
abbrev sortIn (h : Heap) (a : Addr) (vs : List Value) : Heap := ((h.update a (Obj.mapSeq fun _ => (#[] : Array Value))).push (seqObj "tuple" vs.toArray 0)).push (seqObj "list" #[] 0)
theorem valAt_range (vs : List Value) : (List.toArray (List.range vs.length)).map (valAt vs) = vs.toArray.zip vs.toArray := by
  refine Array.ext (by simp) fun i h1 h2 => ?_
  have hi : i < vs.length := by simpa using h1
  simp [valAt, hi]
theorem sort_kas {kd : SortKind} {a : Addr} {vs : List Value} {n : Nat} {P : PySem.Fin → Shared → Prop} (ho : s.heap.get? a = some (seqObj "list" vs.toArray n)) (h2 : 2 ≤ vs.length) (h64 : vs.length < 64)
    (hkd : ∀ (R : SortKind → Shared → Prop), R kd { s with heap := sortIn s.heap a vs } → wpAny (model prog w) A (keyKind' vs.toArray) R E { s with heap := sortIn s.heap a vs })
    (hc : ∀ i j, i < vs.length → j < vs.length → ∃ b, ∀ C : Bool → Shared → Prop, C b { s with heap := sortIn s.heap a vs } → wpAny (model prog w) A (keyLt' kd (vs.getD i .none) (vs.getD j .none)) C (fun _ _ => False) { s with heap := sortIn s.heap a vs })
    (h : ∀ p, Ord vs.length p → P (.done (.ret .none)) { s with heap := sortedHeap s.heap a vs (p.map fun i => vs.getD i .none) }) : wpAny (model prog w) A (Builtin.«list.sort» ⟨[.ref a], []⟩) P E s := by
  rw [list_sort_plain]
  have ha : a < s.heap.objs.size := Heap.lt_size ho
  refine wpAny_bind (listItems_at ho rfl ?_)
  refine wpAny_bind (listUpdate_at ho rfl ?_ (by rw [List.size_toArray, sizeLine_eq]; omega) (Nat.zero_le _))
  obtain ⟨e1, ho1⟩ : ∃ e1, (s.heap.update a (Obj.mapSeq fun _ => (#[] : Array Value))).get? a = some (seqObj "list" #[] e1) := ⟨_, get?_update_seq ho (fun _ => #[])⟩
  refine wpAny_bind (seqEpoch_at ho1 rfl ?_)
  refine wpAny_bind (wpAny_newTuple ?_ (by show vs.length ≤ _; rw [sizeLine_eq]; omega))
  refine wpAny_bind (wpAny_newList ?_ (Nat.zero_le _))
  refine wpAny_holding ?_
  have ho6 : (sortIn s.heap a vs).get? a = some (seqObj "list" #[] e1) := by
    rw [Heap.get?_push_ne _ _ _ (by rw [size_push', Heap.size_update]; exact Nat.ne_of_lt (Nat.lt_succ_of_lt ha)), Heap.get?_push_ne _ _ _ (by rw [Heap.size_update]; exact Nat.ne_of_lt ha)]
    exact ho1
  show wpAny (model prog w) A _ P E { s with heap := sortIn s.heap a vs }
  dsimp only
  have hn2 : ¬ vs.toArray.size < 2 := by rw [List.size_toArray]; omega
  rw [if_neg hn2, if_neg hn2]
  refine wpAny_bind (hkd _ ?_)
  have est : kas_st kd (pairsOf vs) (List.toArray (List.range vs.length)) = SortSt.mk' kd (vs.toArray.zip vs.toArray) #[] 7 none := by
    have e := kas_range (pairsOf vs)
    rw [pairsOf_size] at e
    show SortSt.mk' kd ((List.toArray (List.range vs.length)).map (kas_item (pairsOf vs))) #[] 7 none = SortSt.mk' kd (pairsOf vs) #[] 7 none
    rw [e]
  have ask : (kas_sort vs.length).kasWp (kas_cmp prog w A kd (pairsOf vs)) (fun p s' => s' = { s with heap := sortIn s.heap a vs } ∧ Ord vs.length p) { s with heap := sortIn s.heap a vs } := by
    refine Leaves.wp (fun i j hi hj => ?_) (fun p hp => ⟨rfl, hp⟩) (lv_sort (by omega))
    obtain ⟨b, hb⟩ := hc i j hi hj
    refine ⟨b, fun C hC => ?_⟩
    rw [← kas_ask_eq]
    exact hb C hC
  have run := kas_runs (E := E) (Q := fun _ st' s' => ∃ p, s' = { s with heap := sortIn s.heap a vs } ∧ Ord vs.length p ∧ arrOf st' = p.map (kas_item (pairsOf vs)) ∧ failedOf st' = none) h2 h64 (fun p' st' s' _ a2 a3 a4 => ⟨p', a4.1, a4.2, a2, a3⟩) ask
  rw [est] at run
  refine wpAny_bind (wpAny_mono run ?_ fun _ _ e => e)
  rintro ⟨⟨⟩, st'⟩ s' ⟨p, rfl, hp, har, hf⟩
  dsimp only at har hf ⊢
  have eo : (arrOf st').map (·.2) = p.map fun i => vs.getD i .none := by
    rw [har, Array.map_map]
    refine Array.map_congr_left fun i _ => ?_
    show (kas_item (pairsOf vs) i).2 = _
    rw [kas_item_eq]
  rw [eo]
  refine wpAny_bind (seqEpoch_at ho6 rfl ?_)
  refine wpAny_bind (listUpdate_at ho6 rfl ?_ (Nat.zero_le _) (by rw [Array.size_map, sizeLine_eq, hp.size]; omega))
  rw [hf]
  simp only [bne_self_eq_false, Bool.false_eq_true, if_false]
  exact wpAny_pure (h p hp)
abbrev sortedIn (h : Heap) (vs : List Value) : Heap := sortIn (((h.push (seqObj "list" #[] 0)).update h.objs.size (Obj.mapSeq (· ++ vs.toArray))).push (seqObj "list" vs.toArray 0)) (h.objs.size + 1) vs
theorem sortedIn_old {h : Heap} {vs : List Value} {b : Addr} {o : Obj} (hb : h.get? b = some o) : (sortedIn h vs).get? b = some o := by
  have hlt : b < h.objs.size := Heap.lt_size hb
  have sz : (((h.push (seqObj "list" #[] 0)).update h.objs.size (Obj.mapSeq (· ++ vs.toArray))).push (seqObj "list" vs.toArray 0)).objs.size = h.objs.size + 2 := by rw [size_push', Heap.size_update, size_push']
  have n0 : b ≠ h.objs.size := Nat.ne_of_lt hlt
  have n1 : b ≠ h.objs.size + 1 := Nat.ne_of_lt (Nat.lt_succ_of_lt hlt)
  have n2 : b ≠ h.objs.size + 2 := Nat.ne_of_lt (Nat.lt_succ_of_lt (Nat.lt_succ_of_lt hlt))
  have n3 : b ≠ h.objs.size + 2 + 1 := Nat.ne_of_lt (Nat.lt_succ_of_lt (Nat.lt_succ_of_lt (Nat.lt_succ_of_lt hlt)))
  rw [Heap.get?_push_ne _ _ _ (by rw [size_push', Heap.size_update, sz]; exact n3), Heap.get?_push_ne _ _ _ (by rw [Heap.size_update, sz]; exact n2), Heap.get?_update_ne _ _ _ _ n1,
    Heap.get?_push_ne _ _ _ (by rw [Heap.size_update, size_push']; exact n1), Heap.get?_update_ne _ _ _ _ n0, Heap.get?_push_ne _ _ _ n0]
  exact hb
theorem sorted_kas {kd : SortKind} {l : Addr} {vs : List Value} {Q : Value → Shared → Prop} (hl : s.heap.IsList l vs.toArray) (h2 : 2 ≤ vs.length) (h64 : vs.length < 64)
    (hkd : ∀ (R : SortKind → Shared → Prop) (E : Value → Shared → Prop), R kd { s with heap := sortedIn s.heap vs } → wpAny (model prog w) A.in1.in1 (keyKind' vs.toArray) R E { s with heap := sortedIn s.heap vs })
    (hc : ∀ i j, i < vs.length → j < vs.length → ∃ b, ∀ C : Bool → Shared → Prop, C b { s with heap := sortedIn s.heap vs } → wpAny (model prog w) A.in1.in1 (keyLt' kd (vs.getD i .none) (vs.getD j .none)) C (fun _ _ => False) { s with heap := sortedIn s.heap vs })
    (h : ∀ p, Ord vs.length p → Q (.ref (s.heap.objs.size + 1)) { s with heap := sortedAll s.heap vs (p.map fun i => vs.getD i .none) }) : wpAny (model prog w) A (call (.builtin "sorted") [.ref l]) Q E s := by
  refine Calls.call_function_entry kind_sorted plain_sorted entry_sorted (args_sorted1 _) ?_
  unfold Builtin.«sorted»
  refine wpAny_bind (m := checkCount "sorted" 1 1 _) (wpAny_pure ?_)
  refine wpAny_bind (collect_list hl ?_ (by rw [sizeLine_eq]; omega))
  refine wpAny_bind (wpAny_newList ?_ (by rw [sizeLine_eq]; omega))
  have hsz : ((s.heap.push (seqObj "list" #[] 0)).update s.heap.objs.size (Obj.mapSeq (· ++ vs.toArray))).objs.size = s.heap.objs.size + 1 := by
    rw [Heap.size_update, size_push']
  have hoL : (((s.heap.push (seqObj "list" #[] 0)).update s.heap.objs.size (Obj.mapSeq (· ++ vs.toArray))).push (seqObj "list" vs.toArray 0)).get? (s.heap.objs.size + 1) = some (seqObj "list" vs.toArray 0) := by
    rw [← hsz]; exact Heap.get?_push_size _ rfl
  show wpAny _ _ _ _ _ { s with heap := ((s.heap.push (seqObj "list" #[] 0)).update s.heap.objs.size (Obj.mapSeq (· ++ vs.toArray))).push (seqObj "list" vs.toArray 0) }
  rw [hsz]
  refine wpAny_bind (wpAny_holding (wpAny_call_entry slot_list_sort ⟨_, hoL, rfl⟩ entry_list_sort (sort_kas (s := { s with heap := ((s.heap.push (seqObj "list" #[] 0)).update s.heap.objs.size (Obj.mapSeq (· ++ vs.toArray))).push (seqObj "list" vs.toArray 0) }) hoL h2 h64 (fun R => hkd R _) hc fun p hp => ⟨_, rfl, ?_⟩) (args_list_sort _)))
  exact wpAny_pure ⟨_, rfl, h p hp⟩
end
/-! fewer than two items -/
section
variable {prog : Program} {w : World} {A : Around} {E : Value → Shared → Prop} {s : Shared}
theorem sort_few {a : Addr} {vs : List Value} {n : Nat} {P : PySem.Fin → Shared → Prop} (ho : s.heap.get? a = some (seqObj "list" vs.toArray n)) (h2 : vs.length < 2)
    (h : P (.done (.ret .none)) { s with heap := sortedHeap s.heap a vs vs.toArray }) : wpAny (model prog w) A (Builtin.«list.sort» ⟨[.ref a], []⟩) P E s := by
  rw [list_sort_plain]
  have ha : a < s.heap.objs.size := Heap.lt_size ho
  refine wpAny_bind (listItems_at ho rfl ?_)
  refine wpAny_bind (listUpdate_at ho rfl ?_ (by rw [List.size_toArray, sizeLine_eq]; omega) (Nat.zero_le _))
  obtain ⟨e1, ho1⟩ : ∃ e1, (s.heap.update a (Obj.mapSeq fun _ => (#[] : Array Value))).get? a = some (seqObj "list" #[] e1) := ⟨_, get?_update_seq ho (fun _ => #[])⟩
  refine wpAny_bind (seqEpoch_at ho1 rfl ?_)
  refine wpAny_bind (wpAny_newTuple ?_ (by show vs.length ≤ _; rw [sizeLine_eq]; omega))
  refine wpAny_bind (wpAny_newList ?_ (Nat.zero_le _))
  refine wpAny_holding ?_
  have ho6 : (sortIn s.heap a vs).get? a = some (seqObj "list" #[] e1) := by
    rw [Heap.get?_push_ne _ _ _ (by rw [size_push', Heap.size_update]; exact Nat.ne_of_lt (Nat.lt_succ_of_lt ha)), Heap.get?_push_ne _ _ _ (by rw [Heap.size_update]; exact Nat.ne_of_lt ha)]
    exact ho1
  show wpAny (model prog w) A _ P E { s with heap := sortIn s.heap a vs }
  dsimp only
  have hn2 : vs.toArray.size < 2 := by rw [List.size_toArray]; omega
  rw [if_pos hn2, if_pos hn2]
  refine wpAny_bind (wpAny_pure ?_)
  rw [StateT.run_pure]
  refine wpAny_bind (wpAny_pure ?_)
  dsimp only
  have eo : (vs.toArray.zip vs.toArray).map (·.2) = vs.toArray := by
    refine Array.ext (by simp) fun i h1 h2 => ?_
    simp
  refine wpAny_bind (seqEpoch_at ho6 rfl ?_)
  rw [eo]
  refine wpAny_bind (listUpdate_at ho6 rfl ?_ (Nat.zero_le _) (by rw [List.size_toArray, sizeLine_eq]; omega))
  simp only [bne_self_eq_false, Bool.false_eq_true, if_false]
  exact wpAny_pure h
theorem sorted_few {l : Addr} {vs : List Value} {Q : Value → Shared → Prop} (hl : s.heap.IsList l vs.toArray) (h2 : vs.length < 2)
    (h : Q (.ref (s.heap.objs.size + 1)) { s with heap := sortedAll s.heap vs vs.toArray }) : wpAny (model prog w) A (call (.builtin "sorted") [.ref l]) Q E s := by
  refine Calls.call_function_entry kind_sorted plain_sorted entry_sorted (args_sorted1 _) ?_
  unfold Builtin.«sorted»
  refine wpAny_bind (m := checkCount "sorted" 1 1 _) (wpAny_pure ?_)
  refine wpAny_bind (collect_list hl ?_ (by rw [sizeLine_eq]; omega))
  refine wpAny_bind (wpAny_newList ?_ (by rw [sizeLine_eq]; omega))
  have hsz : ((s.heap.push (seqObj "list" #[] 0)).update s.heap.objs.size (Obj.mapSeq (· ++ vs.toArray))).objs.size = s.heap.objs.size + 1 := by
    rw [Heap.size_update, size_push']
  have hoL : (((s.heap.push (seqObj "list" #[] 0)).update s.heap.objs.size (Obj.mapSeq (· ++ vs.toArray))).push (seqObj "list" vs.toArray 0)).get? (s.heap.objs.size + 1) = some (seqObj "list" vs.toArray 0) := by
    rw [← hsz]; exact Heap.get?_push_size _ rfl
  show wpAny _ _ _ _ _ { s with heap := ((s.heap.push (seqObj "list" #[] 0)).update s.heap.objs.size (Obj.mapSeq (· ++ vs.toArray))).push (seqObj "list" vs.toArray 0) }
  rw [hsz]
  refine wpAny_bind (wpAny_holding (wpAny_call_entry slot_list_sort ⟨_, hoL, rfl⟩ entry_list_sort (sort_few (s := { s with heap := ((s.heap.push (seqObj "list" #[] 0)).update s.heap.objs.size (Obj.mapSeq (· ++ vs.toArray))).push (seqObj "list" vs.toArray 0) }) hoL h2 ⟨_, rfl, ?_⟩) (args_list_sort _)))
  exact wpAny_pure ⟨_, rfl, h⟩
end
section
variable {X : Cx}
theorem vals_getD {rs : List V} {its : List Value} (r : Vals rs its) : ∀ (l : List Nat), (∀ i ∈ l, i < rs.length) → Vals (l.map fun i => rs.getD i .non) (l.map fun i => its.getD i .none)
  | [], _ => .nil
  | i :: l, h => by
    have hi : i < rs.length := h i (by simp)
    have e : rs[i]? = some rs[i] := List.getElem?_eq_getElem hi
    obtain ⟨u, hu, ru⟩ := r.get e
    rw [List.map_cons, List.map_cons]
    refine .cons ?_ (vals_getD r l fun j hj => h j (by simp [hj]))
    rw [List.getD, List.getD, e, hu]
    exact ru
end
/-! the question of two tuples of ints -/
section
variable {prog : Program} {w : World} {A : Around} {E : Value → Shared → Prop} {s : Shared}
end
section
variable {X : Cx} {pins : List (Addr × Obj)} {σ : St} {H : Hp} {s : Shared}
end
end L2
/-! ### a dict of the module's own, ints by ints, read -/
namespace L2
open PySem PySem.Spec PyProof.Rows
def intIs (v : Value) (k : Int) : Bool := match v with
  | .int i _ => decide (i = k)
  | _ => false
def entOk : List DictEntry → List (Int × Int) → Bool
  | [], [] => true
  | e :: es, p :: kvs => intIs e.key p.1 && decide (e.hash = hashInt p.1) && intIs e.val p.2 && entOk es kvs
  | _, _ => false
def objOk (o : Obj) (kvs : List (Int × Int)) : Bool := match o.cls, o.dict, o.data with
  | .type c, none, .dict es _ => c == "dict" && o.slots.isEmpty && entOk es.toList kvs
  | _, _, _ => false
/-- the dict at a, of the module's top, holds these -/
def dtabIn (K : PySem.W.Frag) (a : Addr) (kvs : List (Int × Int)) : Bool := match K.lookup a with
  | some o => objOk o kvs
  | none => false
theorem intIs_of {v : Value} {k : Int} (h : intIs v k = true) : ∃ t, v = .int k t := by
  unfold intIs at h
  split at h
  · rename_i i t
    exact ⟨t, by rw [of_decide_eq_true h]⟩
  · cases h
theorem entOk_cons {e : DictEntry} {es : List DictEntry} {p : Int × Int} {kvs : List (Int × Int)} (h : entOk (e :: es) (p :: kvs) = true) : (∃ t, e.key = .int p.1 t) ∧ e.hash = hashInt p.1 ∧ (∃ t, e.val = .int p.2 t) ∧ entOk es kvs = true := by
  unfold entOk at h
  rw [Bool.and_eq_true, Bool.and_eq_true, Bool.and_eq_true] at h
  exact ⟨intIs_of h.1.1.1, of_decide_eq_true h.1.1.2, intIs_of h.1.2, h.2⟩
theorem entOk_keys : ∀ {es : List DictEntry} {kvs : List (Int × Int)}, entOk es kvs = true → ∀ e ∈ es, ∃ k, Value.isInt k e.key = true ∧ e.hash = hashInt k
  | [], _, _, e, he => nomatch he
  | e :: es, [], h, _, _ => by unfold entOk at h; cases h
  | e :: es, p :: kvs, h, e', he => by
    obtain ⟨⟨t, h1⟩, h2, _, h4⟩ := entOk_cons h
    rcases List.mem_cons.mp he with rfl | he
    · exact ⟨p.1, by rw [h1]; simp [Value.isInt], h2⟩
    · exact entOk_keys h4 e' he
theorem entOk_find {k v : Int} : ∀ {es : List DictEntry} {kvs : List (Int × Int)}, entOk es kvs = true → kvs.lookup k = some v → ∃ t, (es.find? fun e => Value.isInt k e.key).map (·.val) = some (.int v t)
  | _, [], _, hv => nomatch hv
  | [], p :: kvs, h, _ => by unfold entOk at h; cases h
  | e :: es, p :: kvs, h, hv => by
    obtain ⟨⟨t, h1⟩, h2, ⟨u, h3⟩, h4⟩ := entOk_cons h
    rw [List.lookup_cons] at hv
    rw [List.find?_cons]
    by_cases q : k = p.1
    · have b : (k == p.1) = true := by simp [q]
      rw [b] at hv
      have hv' : p.2 = v := Option.some.inj hv
      have i : Value.isInt k e.key = true := by rw [h1, q]; simp [Value.isInt]
      rw [i]
      exact ⟨u, by rw [← hv', ← h3]; rfl⟩
    · have b : (k == p.1) = false := by simp [q]
      rw [b] at hv
      have i : Value.isInt k e.key = false := by rw [h1]; simp [Value.isInt]; exact fun z => q z.symm
      rw [i]
      exact entOk_find h4 hv
def tDGetM (K : PySem.W.Frag) (td ty : TE) : TE := fun σ H Q => td σ H fun x H1 => ty σ H1 fun y H2 => ∃ a kvs k v, x = .ref a ∧ dtabIn K a kvs = true ∧ y = .int k ∧ kvs.lookup k = some v ∧ Q (.int v) H2
theorem pe_dgetM {X : Cx} {o i : Expr} {pos : Pos} {td ty : TE} (ho : PE X o td) (hi : PE X i ty) (hs : NoSl i) : PE X (.Subscript o i pos) (tDGetM X.K td ty) := by
  intro pins s σ H Q I h
  refine subD_of PySem.F.slot_dict_getitem.lookup hs (thn (ho pins s σ H _ I h) fun u s1 ⟨x, H1, I1, rx, q1⟩ => thn (hi pins s1 σ H1 _ I1 q1) fun iv s2 ⟨y, H2, I2, ry, a, kvs, k, v, ex, hd, ey, hv, q2⟩ => ?_)
  subst ex ey
  obtain rfl : u = Value.ref a := rx
  obtain ⟨t, rfl⟩ := ry
  unfold dtabIn at hd
  split at hd
  · rename_i ob hob
    have hg := I2.kIn a ob hob
    unfold objOk at hd
    split at hd
    · rename_i c es ep hc hdi hda
      rw [Bool.and_eq_true, Bool.and_eq_true] at hd
      obtain ⟨⟨d1, d2⟩, d3⟩ := hd
      have hc' : ob.cls = .type "dict" := by rw [hc, eq_of_beq d1]
      obtain ⟨t', ht⟩ := entOk_find d3 hv
      have mp : s2.heap.MapOf (intKind X.prog X.w) a (findBy Value.isInt es) := ⟨ob, es, ep, hg, ⟨hc', hdi, Array.isEmpty_iff.mp d2⟩, hda, fun e he => entOk_keys d3 e (by simpa using he), fun _ => rfl⟩
      refine ⟨⟨ob, hg, hc'⟩, wpAny_getItem_of (knd := intKind X.prog X.w) (k := k) (by simp [intKind, Value.isInt]) mp (v := .int v t') ?_ ⟨.int v, H2, I2.tok _, ⟨_, rfl⟩, q2⟩⟩
      show findBy Value.isInt es k = _
      unfold findBy
      obtain ⟨l⟩ := es
      simpa using ht
    · cases hd
  · cases hd
end L2
/-! ### x in xs, xs.index(x), by what == tells of each item -/
namespace L2
open PySem PySem.Spec PyProof.Rows
/-- each item is an object, and == tells es of it and x -/
def Told1 (K : PySem.W.Frag) (H : Hp) (n : Nat) (xs : List V) (x : V) (es : Nat → Bool) : Prop := n ≤ 8 ∧ (∀ (j : Nat) z, xs[j]? = some z → (∃ a, z = .ref a) ∧ EqR K H n z x (es j)) ∧ ∀ (i j : Nat) z, xs[i]? = some z → xs[j]? = some z → es i = es j
section
variable {X : Cx} {pins : List (Addr × Obj)} {σ : St} {H : Hp} {s : Shared}
open Classical in
noncomputable def eTold (its : List Value) (es : Nat → Bool) (u : Value) : Bool := decide (∃ j : Nat, its[j]? = some u ∧ es j = true)
open Classical in
theorem eTold_at {n : Nat} {xs : List V} {x : V} {es : Nat → Bool} {its : List Value} (t : Told1 X.K H n xs x es) (r : Vals xs its) {j : Nat} {u : Value} (hu : its[j]? = some u) : eTold its es u = es j := by
  have same : ∀ i : Nat, its[i]? = some u → es i = es j := fun i hi => by
    have li := (List.getElem?_eq_some_iff.mp hi).1
    have lj := (List.getElem?_eq_some_iff.mp hu).1
    have ln := r.length
    have xi : xs[i]? = some xs[i] := List.getElem?_eq_getElem (by omega)
    have xj : xs[j]? = some xs[j] := List.getElem?_eq_getElem (by omega)
    obtain ⟨u1, e1, r1⟩ := r.get xi
    obtain ⟨u2, e2, r2⟩ := r.get xj
    rw [hi] at e1
    rw [hu] at e2
    cases e1
    cases e2
    obtain ⟨⟨a, ea⟩, _⟩ := t.2.1 i _ xi
    obtain ⟨⟨b, eb⟩, _⟩ := t.2.1 j _ xj
    rw [ea] at r1 xi
    rw [eb] at r2 xj
    obtain rfl : u = Value.ref a := r1
    have : Value.ref a = Value.ref b := r2
    cases this
    exact t.2.2 i j _ xi xj
  unfold eTold
  cases h : es j with
  | true => exact decide_eq_true ⟨j, hu, h⟩
  | false => exact decide_eq_false fun ⟨i, hi, e⟩ => by rw [same i hi, h] at e; cases e
theorem eTold_eq (I : Inv X pins σ H s) {n : Nat} {xs : List V} {x : V} {v : Value} {es : Nat → Bool} {its : List Value} (t : Told1 X.K H n xs x es) (r : Vals xs its) (rx : RelV x v) {A : Around} (hu : A.units + n < cLine) : ∀ y, y ∈ its.toArray → SeqAt.EqAt A s y v (eTold its es y) := fun y hy => by
  obtain ⟨j, hj, e⟩ := List.mem_iff_getElem.mp (by simpa using hy)
  have ej : its[j]? = some y := by rw [List.getElem?_eq_getElem hj, e]
  have ln := r.length
  have xj : xs[j]? = some xs[j] := List.getElem?_eq_getElem (by omega)
  obtain ⟨u2, e2, r2⟩ := r.get xj
  rw [ej] at e2
  cases e2
  rw [eTold_at t r ej]
  exact ((t.2.1 j _ xj).2.at_ I (A := A) hu r2 rx).2.2
theorem eTold_any {n : Nat} {xs : List V} {x : V} {es : Nat → Bool} {its : List Value} (t : Told1 X.K H n xs x es) (r : Vals xs its) : its.toArray.any (eTold its es) = (List.range xs.length).any es := by
  rw [show its.toArray.any (eTold its es) = its.any (eTold its es) by simp, Bool.eq_iff_iff, List.any_eq_true, List.any_eq_true]
  have ln := r.length
  constructor
  · rintro ⟨u, hu, e⟩
    obtain ⟨j, hj, e2⟩ := List.mem_iff_getElem.mp hu
    rw [eTold_at t r (by rw [List.getElem?_eq_getElem hj, e2])] at e
    exact ⟨j, by simp; omega, e⟩
  · rintro ⟨j, hj, e⟩
    have hj' : j < its.length := by simp at hj; omega
    exact ⟨its[j], List.getElem_mem hj', by rw [eTold_at t r (List.getElem?_eq_getElem hj')]; exact e⟩
end
section
variable {X : Cx}
def rInD (K : PySem.W.Frag) (neg : Bool) : R2 := fun x y H Q => ∃ (p : Addr) (xs : List V) (n : Nat) (es : Nat → Bool), y = .ref p ∧ SqL K H p xs ∧ Told1 K H n xs x es ∧ Q (.bl (if neg then !((List.range xs.length).any es) else (List.range xs.length).any es)) H
theorem op_inD {k : Nat} (hr : Room k X.A) : OpR X (compareOp .In) (rInD X.K false) := by
  intro pins s σ H x y v u Q I rx ry h
  obtain ⟨p, xs, n, es, rfl, hq, t, q⟩ := h
  cases ry
  have hu := hr.un
  have t8 := t.1
  obtain ⟨its, r, pl, hz⟩ := I.list hq
  refine SeqAt.in_listAt (eTold its es) pl.isList (eTold_eq I t r rx (by rw [units_in1]; omega)) ⟨.bl _, H, I, rfl, ?_⟩
  rw [eTold_any t r]
  exact q
def rIndexD (K : PySem.W.Frag) : V → List V → Hp → VK → Prop := fun o vs H Q => ∃ (p : Addr) (xs : List V) (x : V) (n : Nat) (es : Nat → Bool) (j : Nat), o = .ref p ∧ vs = [x] ∧ SqL K H p xs ∧ xs.length ≤ 1000 ∧ Told1 K H n xs x es ∧ j < xs.length ∧ es j = true ∧ (∀ m, m < j → es m = false) ∧ Q (.int j) H
theorem mt_indexD {k : Nat} (hr : Room k X.A) : MtM X "list.index" (rIndexD X.K) := by
  intro pins s σ H o vs v us Q I ro rv h
  obtain ⟨p, xs, x, n, es, j, rfl, rfl, hq, hL, t, hj, e1, e2, q⟩ := h
  cases ro
  obtain ⟨u, rfl, ru⟩ := Vals.one rv
  have hu := hr.un
  have t8 := t.1
  obtain ⟨its, r, pl, hz⟩ := I.list hq
  have ln := r.length
  obtain ⟨⟨cls, dd, data, sl⟩, ho, hc, m, hd⟩ := pl.isList
  simp only at hc hd
  subst hc hd
  have hj' : j < its.length := by omega
  refine call_meets F.slot_list_index ⟨_, ho, rfl⟩ F.entry_list_index (F.args_list_index_2 _ _) (SeqAt.list_indexAt p its.toArray m dd sl u (eTold its es) j (by simpa using hj') (by omega) ?_ ?_) ⟨ho, eTold_eq I t r ru (by rw [units_in1]; omega), ?_⟩
  · rw [eTold_at t r (show its[j]? = some its.toArray[j] by simp [hj'])]
    exact e1
  · intro i hi hij
    have hi' : i < its.length := by simpa using hi
    rw [eTold_at t r (show its[i]? = some its.toArray[i] by simp [hi'])]
    exact e2 i hij
  · exact ⟨.int j, H, I.tok _, ⟨_, rfl⟩, q⟩
end
end L2
/-! ### sorted(xs) of a list of lists, fewer than 64: some order of them; points by < -/
namespace L2
open PySem PySem.Spec PyProof.Rows PySem.W
/-- what the sort is told of two lists -/
def Ask (K : PySem.W.Frag) (H : Hp) (x y : V) (b : Bool) : Prop := ∃ (a1 a2 : Addr) (xs ys : List V) (d : Nat) (es fs : Nat → Bool), x = .ref a1 ∧ y = .ref a2 ∧ SqL K H a1 xs ∧ SqL K H a2 ys ∧ d ≤ 4 ∧
  (∀ (j : Nat) x y, xs[j]? = some x → ys[j]? = some y → EqR K H d x y (es j)) ∧ (∀ (j : Nat) x y, xs[j]? = some x → ys[j]? = some y → es j = false → LtR K H d x y (fs j)) ∧ b = SeqAt.lex es fs xs.length ys.length (min xs.length ys.length) 0
/-- sorted, of fewer than 64 lists: some order of them -/
def rSortedP (K : PySem.W.Frag) : List V → Hp → VK → Prop := fun vs H Q => ∃ (l : Addr) (rs : List V), vs = [.ref l] ∧ SqL K H l rs ∧ rs.length < 64 ∧ (∀ r ∈ rs, ∃ a ys, r = .ref a ∧ SqL K H a ys) ∧
  (∀ x ∈ rs, ∀ y ∈ rs, ∃ b, Ask K H x y b) ∧ ∀ (p : List Nat) q, p.Perm (List.range rs.length) → H q = none → Q (.ref q) (upd H q (.lst (p.map fun i => rs.getD i .non)))
section
variable {X : Cx}
theorem call_sortedP {k : Nat} (hr : Room k X.A) : CallR X (.builtin "sorted") (rSortedP X.K) := by
  intro pins s σ H xs us Q I r h
  obtain ⟨l, rs, rfl, hq, h64, hty, hask, q⟩ := h
  obtain ⟨u, rfl, rx⟩ := vals1 r
  cases rx
  obtain ⟨its, r', pl, hz⟩ := I.list hq
  have ln := r'.length
  have hu := hr.un
  by_cases h2 : rs.length < 2
  · refine sorted_few (vs := its) pl.isList (by omega) ?_
    obtain ⟨e, he⟩ := sortedAll_at s.heap its its.toArray
    have fr := I.hok.fresh (a := s.heap.objs.size + 1) (Nat.le_succ _)
    have er : (List.range rs.length).map (fun i => rs.getD i .non) = rs := by
      refine List.ext_getElem (by simp) fun i h1 h2 => ?_
      simp [List.getD, h2]
    have := q (List.range rs.length) (s.heap.objs.size + 1) (List.Perm.refl _) fr
    rw [er] at this
    exact ⟨.ref (s.heap.objs.size + 1), _, I.laid (t' := s.toks) (fun _ _ => sortedAll_old) (Nat.le_succ _) (show ObjOk X.prog X.w _ _ _ (.lst rs) from ⟨hz, its, e, r', he⟩), rfl, this⟩
  · have I2 : Inv X pins σ H { s with heap := sortedIn s.heap its } := I.kept (t' := s.toks) fun b o e => sortedIn_old e
    have g : ∀ i, i < its.length → ∃ x ∈ rs, RelV x (its.getD i .none) := fun i h => by
      have hr : i < rs.length := by omega
      obtain ⟨u, hu1, ru⟩ := r'.get (List.getElem?_eq_getElem hr)
      exact ⟨rs[i], List.getElem_mem hr, by rw [List.getD_eq_getElem?_getD, hu1]; exact ru⟩
    refine sorted_kas (kd := oneType') (vs := its) pl.isList (by omega) (by omega) (fun R E hR => kas_kind (T := .type "list") (by omega) (fun v hv => ?_) rfl rfl hR) (fun i j hi' hj' => ?_) fun p ho => ?_
    · obtain ⟨i, hi, rfl⟩ := List.mem_iff_getElem.mp hv
      have hi' : i < rs.length := by omega
      obtain ⟨a, ys, e1, hy⟩ := hty rs[i] (List.getElem_mem hi')
      obtain ⟨u, hu1, ru⟩ := r'.get (List.getElem?_eq_getElem hi')
      rw [List.getElem?_eq_getElem hi] at hu1
      rw [e1] at ru
      obtain rfl : u = Value.ref a := ru
      rw [Option.some.inj hu1]
      obtain ⟨js, r2, p2, z2⟩ := I2.list hy
      obtain ⟨o, ho, hc, _⟩ := p2.isList
      exact hc ▸ (Looks.ld ho).andThen .now
    · obtain ⟨x, hx, rx⟩ := g i hi'
      obtain ⟨y, hy, ry⟩ := g j hj'
      obtain ⟨b, a1, a2, xs, ys, d, es, fs, rfl, rfl, h1, h2, hd, he, hf, eb⟩ := hask x hx y hy
      refine ⟨b, fun C hC => ?_⟩
      have e1 : its.getD i .none = Value.ref a1 := rx
      have e2 : its.getD j .none = Value.ref a2 := ry
      rw [e1, e2]
      rw [eb] at hC
      exact LtR.key I2 h1 h2 he hf (by rw [units_in1, units_in1]; omega) hC
    · have ho' : Ord rs.length p := by rw [ln]; exact ho
      obtain ⟨e, he⟩ := sortedAll_at s.heap its (p.map fun i => its.getD i .none)
      have en : (p.map fun i => its.getD i .none) = List.toArray (p.toList.map fun i => its.getD i .none) := by
        apply Array.toList_inj.mp
        simp
      rw [en] at he ⊢
      have fr := I.hok.fresh (a := s.heap.objs.size + 1) (Nat.le_succ _)
      have pp : p.toList.Perm (List.range rs.length) := Array.perm_iff_toList_perm.mp ho'
      refine ⟨.ref (s.heap.objs.size + 1), _, I.laid (t' := s.toks) (fun _ _ => sortedAll_old) (Nat.le_succ _) (show ObjOk X.prog X.w _ _ _ (.lst (p.toList.map fun i => rs.getD i .non)) from ⟨?_, _, e, vals_getD r' p.toList (fun i hi => ho'.lt hi), he⟩), rfl, q p.toList _ pp fr⟩
      rw [List.length_map, Array.length_toList, sizeLine_eq, ho'.size]
      omega
end
/-! points and lists of points by < -/
def ltPt (p q : Pt) : Bool := decide (p.1 < q.1) || (decide (p.1 = q.1) && decide (p.2 < q.2))
def ltPts : List Pt → List Pt → Bool
  | _, [] => false
  | [], _ :: _ => true
  | x :: xs, y :: ys => if x = y then ltPts xs ys else ltPt x y
section
variable {K : PySem.W.Frag} {H : Hp}
theorem ltr_pt {p q : Pt} {v w : V} (h : Is H (pt p) v) (k : Is H (pt q) w) : LtR K H 1 v w (ltPt p q) := by
  obtain ⟨a, rfl, ha⟩ := of_pt h
  obtain ⟨b, rfl, hb⟩ := of_pt k
  have e := LtR.tuples (K := K) (H := H) (d := 0) (a := a) (b := b) (fun j => if j = 0 then decide (p.1 = q.1) else decide (p.2 = q.2)) (fun j => if j = 0 then decide (p.1 < q.1) else decide (p.2 < q.2)) (SqT.of ha) (SqT.of hb) (fun j x y hx hy => ?_) (fun j x y hx hy _ => ?_)
  · have e2 : SeqAt.lex (fun j => if j = 0 then decide (p.1 = q.1) else decide (p.2 = q.2)) (fun j => if j = 0 then decide (p.1 < q.1) else decide (p.2 < q.2)) 2 2 2 0 = ltPt p q := by
      unfold ltPt
      by_cases e0 : p.1 = q.1
      · have n0 : ¬ p.1 < q.1 := by omega
        by_cases e1 : p.2 = q.2
        · have n1 : ¬ p.2 < q.2 := by omega
          simp [SeqAt.lex, e0, e1]
        · simp [SeqAt.lex, e0, e1]
      · simp [SeqAt.lex, e0]
    exact e2 ▸ e
  · match j, hx, hy with
    | 0, hx, hy => cases hx; cases hy; exact EqR.int 0 _ _
    | 1, hx, hy => cases hx; cases hy; exact EqR.int 0 _ _
    | j + 2, hx, _ => simp at hx
  · match j, hx, hy with
    | 0, hx, hy => cases hx; cases hy; exact LtR.int 0 _ _
    | 1, hx, hy => cases hx; cases hy; exact LtR.int 0 _ _
    | j + 2, hx, _ => simp at hx
theorem lex_pts (p q : List Pt) : ∀ (k i : Nat), min p.length q.length - i = k → i ≤ min p.length q.length → SeqAt.lex (fun j => decide (p.getD j (0, 0) = q.getD j (0, 0))) (fun j => ltPt (p.getD j (0, 0)) (q.getD j (0, 0))) p.length q.length k i = ltPts (p.drop i) (q.drop i)
  | 0, i, hk, hi => by
    rw [SeqAt.lex]
    rcases (by omega : q.length = i ∨ (p.length = i ∧ i < q.length)) with e | ⟨e, e2⟩
    · rw [List.drop_of_length_le (l := q) (by omega)]
      have : ¬ p.length < q.length := by omega
      cases p.drop i <;> simp [ltPts, this]
    · rw [List.drop_of_length_le (l := p) (by omega), List.drop_eq_getElem_cons e2]
      have : p.length < q.length := by omega
      simp [ltPts, this]
  | k + 1, i, hk, hi => by
    have h1 : i < p.length := by omega
    have h2 : i < q.length := by omega
    have g1 : p.getD i (0, 0) = p[i] := by simp [List.getD, h1]
    have g2 : q.getD i (0, 0) = q[i] := by simp [List.getD, h2]
    rw [SeqAt.lex, List.drop_eq_getElem_cons h1, List.drop_eq_getElem_cons h2, ltPts, g1, g2]
    by_cases e : p[i] = q[i]
    · rw [if_pos (decide_eq_true e), if_pos e]
      exact lex_pts p q k (i + 1) (by omega) (by omega)
    · rw [if_neg (by simpa using e), if_neg e]
theorem pts_parts {p q : List Pt} {vs ws : List V} (h : Iss H (p.map pt) vs) (k : Iss H (q.map pt) ws) :
    (∀ (j : Nat) x y, vs[j]? = some x → ws[j]? = some y → EqR K H 1 x y (decide (p.getD j (0, 0) = q.getD j (0, 0)))) ∧ (∀ (j : Nat) x y, vs[j]? = some x → ws[j]? = some y → decide (p.getD j (0, 0) = q.getD j (0, 0)) = false → LtR K H 1 x y (ltPt (p.getD j (0, 0)) (q.getD j (0, 0)))) := by
  have go : ∀ (j : Nat) x y, vs[j]? = some x → ws[j]? = some y → Is H (pt (p.getD j (0, 0))) x ∧ Is H (pt (q.getD j (0, 0))) y := fun j x y hx hy => by
    obtain ⟨d, hd, h1⟩ := h.of_get hx
    obtain ⟨e, he, h2⟩ := k.of_get hy
    rw [List.getElem?_map] at hd he
    obtain ⟨d', hd', rfl⟩ := Option.map_eq_some_iff.mp hd
    obtain ⟨e', he', rfl⟩ := Option.map_eq_some_iff.mp he
    rw [List.getD, hd', List.getD, he']
    exact ⟨h1, h2⟩
  exact ⟨fun j x y hx hy => eqr_pt (go j x y hx hy).1 (go j x y hx hy).2, fun j x y hx hy _ => ltr_pt (go j x y hx hy).1 (go j x y hx hy).2⟩
theorem ask_pts {p q : List Pt} {v w : V} (h : Is H (pts p) v) (k : Is H (pts q) w) : Ask K H v w (ltPts p q) := by
  obtain ⟨a, vs, rfl, ha, h⟩ := of_pts h
  obtain ⟨b, ws, rfl, hb, k⟩ := of_pts k
  obtain ⟨e1, e2⟩ := pts_parts (K := K) h k
  refine ⟨a, b, vs, ws, 1, _, _, rfl, rfl, SqL.of ha, SqL.of hb, by decide, e1, e2, ?_⟩
  rw [h.length, k.length, List.length_map, List.length_map, lex_pts p q _ 0 (Nat.sub_zero _) (Nat.zero_le _), List.drop_zero, List.drop_zero]
end
end L2
/-! ### sorted, by steps: a pure walk over places tells what the sort does when each question is told -/
set_option hygiene false
local macro_rules | `(tactic| walk_at "bare") => `(tactic| (unfold wpS; wp_delta; wp_delta; wp_delta; refine (show wpS _ _ _ _ _ _ _ from ?_)))
local macro_rules | `(tactic| walk_at "tw") => `(tactic| first
  | with_reducible refine wpS_bind (told_elemP (by assumption) ?_)
  | with_reducible refine wpS_bind (told_ltP (by assumption) (by assumption) (by assumption) ?_)
  | with_reducible refine wpS_bind (told_galP (by assumption) (by assumption) (by assumption) ?_)
  | with_reducible refine wpS_bind (setG_P ?_)
  | rw [if_pos (by assumption)]
  | rw [if_neg (by assumption)]
  | exact wpS_pure (by assumption)
  | dsimp only)
local macro_rules | `(tactic| walk_at "tw_all") => `(tactic| (
  repeat' (first | (rw [Option.bind_eq_some_iff] at hs; obtain ⟨_, _, hs⟩ := hs) | split at hs)
  all_goals
    cases hs
    simp only [Option.map_some, Option.map_none, loDone_map, loLast_map, Array.map_push, Array.map_append, Array.map_extract, Array.size_map, if_true, Bool.false_eq_true, if_false] at hR
    repeat walk_at "tw"))
local macro_rules | `(tactic| walk_at "tw_hi") => `(tactic| (
  repeat' (first | (rw [Option.bind_eq_some_iff] at hs; obtain ⟨_, _, hs⟩ := hs) | split at hs)
  all_goals
    cases hs
    simp only [Option.map_some, Option.map_none, hiDone_map, hiFirst_map, Array.map_push, Array.map_append, Array.map_extract, Array.map_reverse, Array.size_map, if_true, Bool.false_eq_true, if_false] at hR
    repeat walk_at "tw"))
local macro_rules | `(tactic| walk_at "tw_asc") => `(tactic| (
  refine wpS_bind (wpS_iter (γ := Nat) (step := cAsc c _ l) (fun m => (none, m)) (fun _ => sst kd item _ pd g) (fun x m r hs R hR => ?_) hz ?_)
  · obtain ⟨q, hq1, rfl⟩ := Option.map_eq_some_iff.mp hs
    refine wpS_bind (told_at hc hq1 ?_)
    cases q <;> exact wpS_pure hR))
local macro_rules | `(tactic| walk_at "tw_down") => `(tactic| (
  refine wpS_bind (wpS_lift (wpAny_rule ⟨rfl, ?_⟩))
  obtain ⟨t, h1, h2⟩ := Option.bind_eq_some_iff.mp h
  refine wpS_bind (wpS_iter (γ := Array Nat × Nat × Nat) (step := cDesc c l) (fun t => (none, t.2.1, t.2.2)) (fun t => sst kd item t.1 pd g) (fun x t r hs R hR => ?_) h1 ?_)
  · unfold cDesc at hs
    obtain ⟨q, hq1, hs⟩ := Option.bind_eq_some_iff.mp hs
    refine wpS_bind (told_at hc hq1 ?_)
    cases q with
    | true =>
      dsimp only
      rw [if_pos rfl] at hs ⊢
      split at hs
      · rename_i z
        rw [if_pos z]
        cases hs
        exact wpS_bind (told_rev (wpS_pure hR))
      · rename_i z
        rw [if_neg z]
        cases hs
        exact wpS_pure hR
    | false =>
      dsimp only
      rw [if_neg (by simp)] at hs ⊢
      obtain ⟨r, hr1, hs⟩ := Option.bind_eq_some_iff.mp hs
      refine wpS_bind (told_at hc hr1 ?_)
      cases r <;> (cases hs; exact wpS_pure hR)
  · dsimp only
    split at h2
    · rename_i z
      rw [if_pos z]
      refine wpS_bind (told_rev ?_)
      refine wpS_bind (told_rev ?_)
      obtain ⟨k2, h3, h4⟩ := Option.map_eq_some_iff.mp h2
      cases h4
      have hz := h3
      walk_at "tw_asc"
      exact wpS_pure hq
    · rename_i z
      rw [if_neg z]
      refine wpS_bind (told_rev ?_)
      obtain ⟨k2, h3, h4⟩ := Option.map_eq_some_iff.mp h2
      cases h4
      have hz := h3
      walk_at "tw_asc"
      exact wpS_pure hq))
local macro_rules | `(tactic| walk_at "tw_push") => `(tactic| (
  unfold sPush at hs
  refine wpS_bind (wpS_get ?_)
  try dsimp only at hs ⊢
  split at hs
  · rename_i u hu
    rw [hu]
    try dsimp only
    obtain ⟨t', ht, hs⟩ := Option.bind_eq_some_iff.mp hs
    cases hs
    refine wpS_bind (wpS_iter (γ := Ts) (step := sCol c _) (fun _ => (none, ())) (fun t => sst kd item t.1 t.2.1 t.2.2) (fun x t r hs R hR => ?_) (a := 0) ht ?_)
    · unfold sCol at hs
      refine wpS_bind (wpS_get ?_)
      try dsimp only
      split at hs
      · rename_i v hv
        rw [hv]
        try dsimp only
        split at hs
        · rename_i z
          rw [if_pos z]
          cases hs
          exact wpS_pure hR
        · rename_i z
          rw [if_neg z]
          obtain ⟨t', hm, hs⟩ := Option.bind_eq_some_iff.mp hs
          cases hs
          exact wpS_bind (told_mAt hc hm (wpS_pure hR))
      · rename_i hv
        rw [hv]
        cases hs
        exact wpS_pure hR
    · try dsimp only
      exact wpS_bind (wpS_modify (wpS_bind (wpS_modify (wpS_pure hR))))
  · rename_i hu
    rw [hu]
    cases hs
    exact wpS_bind (wpS_modify (wpS_pure hR))))
set_option hygiene true
namespace L2
open PySem PyProof.Rows
def gallop' : Bool → Keyed → Array Keyed → Nat → Nat → Nat → StateT SortSt Sem (Option Nat) := sortPriv% PySem.Builtin.gallop
def mergeLo' : Array Keyed → Array Keyed → StateT SortSt Sem (Array Keyed) := sortPriv% PySem.Builtin.mergeLo
def mergeHi' : Array Keyed → Array Keyed → StateT SortSt Sem (Array Keyed) := sortPriv% PySem.Builtin.mergeHi
def setMinGallop' : Nat → StateT SortSt Sem Unit := sortPriv% PySem.Builtin.setMinGallop
/-- a loop, by steps -/
def iter {γ : Type} (step : γ → Option (Bool × γ)) : Nat → γ → Option γ
  | 0, g => some g
  | f + 1, g => (step g).bind fun r => if r.1 = true then some r.2 else iter step f r.2
section
variable {M : Model} {A : Around} {E : Value → Shared → Prop} {s : Shared} {σ : Type}
theorem wpS_iter {β γ : Type} {step : γ → Option (Bool × γ)} (φ : γ → β) (τ : γ → σ) {f : Nat → β → StateT σ Sem (ForInStep β)} {Q : β → σ → Prop}
    (hs : ∀ x g r, step g = some r → ∀ R : ForInStep β → σ → Prop, R (if r.1 = true then .done (φ r.2) else .yield (φ r.2)) (τ r.2) → wpS M A E s (f x (φ g)) R (τ g))
    {a b : Nat} {g g' : γ} (h : iter step (b - a) g = some g') (hq : Q (φ g') (τ g')) : wpS M A E s (forIn [a:b] (φ g) f) Q (τ g) := by
  rw [Std.Legacy.Range.forIn_eq_forIn_range']
  have hsz : ([a:b] : Std.Legacy.Range).size = b - a := by simp [Std.Legacy.Range.size]
  show wpS M A E s (forIn (List.range' a ([a:b] : Std.Legacy.Range).size 1) (φ g) f) Q (τ g)
  rw [hsz]
  have go : ∀ (k : Nat) (l : List Nat) (g : γ), l.length = k → iter step k g = some g' → wpS M A E s (forIn l (φ g) f) Q (τ g) := by
    intro k
    induction k with
    | zero =>
      intro l g hl h
      cases l with
      | nil => rw [List.forIn_nil]; cases h; exact wpS_pure hq
      | cons _ _ => simp at hl
    | succ k ih =>
      intro l g hl h
      cases l with
      | nil => simp at hl
      | cons x l =>
        rw [List.forIn_cons]
        unfold iter at h
        obtain ⟨r, hr, h⟩ := Option.bind_eq_some_iff.mp h
        refine wpS_bind (hs x g r hr _ ?_)
        by_cases hd : r.1 = true
        · rw [if_pos hd] at h ⊢
          cases h
          exact wpS_pure hq
        · rw [if_neg hd] at h ⊢
          exact ih l r.2 (by simpa using hl) h
  exact go _ _ g (by simp) h
end
section
variable {prog : Program} {w : World} {A : Around} {E : Value → Shared → Prop} {s : Shared} {item : Nat → Keyed} {c : Nat → Nat → Option Bool} {kd : SortKind}
/-- the comparisons, told by c -/
def Told (kd : SortKind) (prog : Program) (w : World) (A : Around) (s : Shared) (item : Nat → Keyed) (c : Nat → Nat → Option Bool) : Prop :=
  ∀ i j b, c i j = some b → ∀ Q : Bool → Shared → Prop, Q b s → wpAny (model prog w) A (keyLt' kd (item i).1 (item j).1) Q (fun _ _ => False) s
theorem told_lt (hc : Told kd prog w A s item c) {st : SortSt} (hk : kindOf st = kd) {i j : Nat} {b : Bool} (h : c i j = some b) {Q : Option Bool → SortSt → Prop} (hq : Q (some b) st) : wpS (model prog w) A E s (lt' (item i) (item j)) Q st := by
  rw [lt'_eq]
  refine wpS_bind (wpS_get ?_)
  rw [hk]
  refine wpS_bind (wpS_lift (wpAny_attempt (wpAny_mono (hc i j b h _ ⟨rfl, wpS_pure hq⟩) (fun _ _ h => h) fun _ _ hF => hF.elim)))
theorem told_elem {st : SortSt} {arr : Array Nat} {i x : Nat} (h : arr[i]? = some x) {Q : Keyed → SortSt → Prop} (hq : Q (item x) st) : wpS (model prog w) A E s (elem' (arr.map item) i) Q st := by
  rw [elem'_eq, Array.getElem?_map, h]
  exact wpS_pure hq
def gBey (c : Nat → Nat → Option Bool) (left : Bool) (key : Nat) (arr : Array Nat) (i : Nat) : Option Bool := arr[i]?.bind fun x => if left = true then c x key else (c key x).map (!·)
def gUp (b : Nat → Option Bool) (m : Nat) (g : Nat × Nat) : Option (Bool × Nat × Nat) := if g.2 ≥ m then some (true, g) else (b g.2).map fun y => if y = true then (false, g.2, 2 * g.2 + 1) else (true, g)
def gDn (b : Nat → Option Bool) (m : Nat) (g : Nat × Nat) : Option (Bool × Nat × Nat) := if g.2 ≥ m then some (true, g) else (b g.2).map fun y => if y = true then (true, g) else (false, g.2, 2 * g.2 + 1)
def gBis (b : Nat → Option Bool) (g : Nat × Nat) : Option (Bool × Nat × Nat) :=
  if g.1 ≥ g.2 then some (true, g) else (b (g.1 + (g.2 - g.1) / 2)).map fun y => if y = true then (false, g.1 + (g.2 - g.1) / 2 + 1, g.2) else (false, g.1, g.1 + (g.2 - g.1) / 2)
def gal (c : Nat → Nat → Option Bool) (left : Bool) (key : Nat) (arr : Array Nat) (base n hint : Nat) : Option Nat :=
  (gBey c left key arr (base + hint)).bind fun right =>
    (if right = true then (iter (gUp (fun o => gBey c left key arr (base + (hint + o))) (n - hint)) n (0, 1)).map fun g => (hint + g.1 + 1, hint + min g.2 (n - hint))
      else (iter (gDn (fun o => gBey c left key arr (base + (hint - o))) (hint + 1)) n (0, 1)).map fun g => (hint + 1 - min g.2 (hint + 1), hint - g.1)).bind fun lh =>
      (iter (gBis fun i => gBey c left key arr (base + i)) n lh).map (·.2)
theorem told_bey (hc : Told kd prog w A s item c) {st : SortSt} (hk : kindOf st = kd) {left : Bool} {key : Nat} {arr : Array Nat} {i : Nat} {b : Bool} (h : gBey c left key arr i = some b) {Q : Option Bool → SortSt → Prop} (hq : Q (some b) st) :
    wpS (model prog w) A E s (do
      let x ← elem' (arr.map item) i
      if left = true then lt' x (item key) else do
        let y ← lt' (item key) x
        pure (y.map (!·))) Q st := by
  obtain ⟨x, hx, h⟩ := Option.bind_eq_some_iff.mp h
  refine wpS_bind (told_elem hx ?_)
  by_cases hl : left = true
  · rw [if_pos hl] at h ⊢
    exact told_lt hc hk h hq
  · rw [if_neg hl] at h ⊢
    obtain ⟨y, hy, rfl⟩ := Option.map_eq_some_iff.mp h
    exact wpS_bind (told_lt hc hk hy (wpS_pure hq))
theorem told_gal (hc : Told kd prog w A s item c) {st : SortSt} (hk : kindOf st = kd) {left : Bool} {key : Nat} {arr : Array Nat} {base n hint k : Nat} (h : gal c left key arr base n hint = some k) {Q : Option Nat → SortSt → Prop} (hq : Q (some k) st) :
    wpS (model prog w) A E s (gallop' left (item key) (arr.map item) base n hint) Q st := by
  walk_at "bare"
  dsimp only
  obtain ⟨right, hr, h⟩ := Option.bind_eq_some_iff.mp h
  obtain ⟨lh, h1, h2⟩ := Option.bind_eq_some_iff.mp h
  obtain ⟨lh2, h3, rfl⟩ := Option.map_eq_some_iff.mp h2
  refine wpS_bind (told_bey hc hk hr ?_)
  dsimp only
  by_cases e : right = true
  · rw [if_pos e] at h1 ⊢
    obtain ⟨g0, h0, rfl⟩ := Option.map_eq_some_iff.mp h1
    refine wpS_bind (wpS_iter (γ := Nat × Nat) (step := gUp (fun o => gBey c left key arr (base + (hint + o))) (n - hint)) (fun g => (none, g.1, g.2)) (fun _ => st) (fun x g r hs R hR => ?_) (a := 0) (b := n) (g := (0, 1)) (g' := g0) h0 ?_)
    · unfold gUp at hs
      dsimp only
      by_cases e : g.2 ≥ n - hint
      · rw [if_pos e] at hs ⊢
        cases hs
        exact wpS_pure hR
      · rw [if_neg e] at hs ⊢
        obtain ⟨y, hy, rfl⟩ := Option.map_eq_some_iff.mp hs
        refine wpS_bind (told_bey hc hk hy ?_)
        cases y <;> exact wpS_pure hR
    · dsimp only
      refine wpS_bind (wpS_iter (γ := Nat × Nat) (step := gBis fun i => gBey c left key arr (base + i)) (fun g => (none, g.1, g.2)) (fun _ => st) (fun x g r hs R hR => ?_) (a := 0) (b := n) (g := (hint + g0.1 + 1, hint + min g0.2 (n - hint))) (g' := lh2) h3 (wpS_pure hq))
      unfold gBis at hs
      dsimp only
      by_cases e : g.1 ≥ g.2
      · rw [if_pos e] at hs ⊢
        cases hs
        exact wpS_pure hR
      · rw [if_neg e] at hs ⊢
        obtain ⟨y, hy, rfl⟩ := Option.map_eq_some_iff.mp hs
        refine wpS_bind (told_bey hc hk hy ?_)
        cases y <;> exact wpS_pure hR
  · rw [if_neg e] at h1 ⊢
    obtain ⟨g0, h0, rfl⟩ := Option.map_eq_some_iff.mp h1
    refine wpS_bind (wpS_iter (γ := Nat × Nat) (step := gDn (fun o => gBey c left key arr (base + (hint - o))) (hint + 1)) (fun g => (none, g.1, g.2)) (fun _ => st) (fun x g r hs R hR => ?_) (a := 0) (b := n) (g := (0, 1)) (g' := g0) h0 ?_)
    · unfold gDn at hs
      dsimp only
      by_cases e : g.2 ≥ hint + 1
      · rw [if_pos e] at hs ⊢
        cases hs
        exact wpS_pure hR
      · rw [if_neg e] at hs ⊢
        obtain ⟨y, hy, rfl⟩ := Option.map_eq_some_iff.mp hs
        refine wpS_bind (told_bey hc hk hy ?_)
        cases y <;> exact wpS_pure hR
    · dsimp only
      refine wpS_bind (wpS_iter (γ := Nat × Nat) (step := gBis fun i => gBey c left key arr (base + i)) (fun g => (none, g.1, g.2)) (fun _ => st) (fun x g r hs R hR => ?_) (a := 0) (b := n) (g := (hint + 1 - min g0.2 (hint + 1), hint - g0.1)) (g' := lh2) h3 (wpS_pure hq))
      unfold gBis at hs
      dsimp only
      by_cases e : g.1 ≥ g.2
      · rw [if_pos e] at hs ⊢
        cases hs
        exact wpS_pure hR
      · rw [if_neg e] at hs ⊢
        obtain ⟨y, hy, rfl⟩ := Option.map_eq_some_iff.mp hs
        refine wpS_bind (told_bey hc hk hy ?_)
        cases y <;> exact wpS_pure hR
/-! the merge from the left -/
def loDone (a b out : Array Nat) (ia ib : Nat) : Array Nat := out ++ a.extract ia a.size ++ b.extract ib b.size
def loLast (a b out : Array Nat) (ia ib : Nat) : Array Nat := out ++ b.extract ib b.size ++ a.extract ia a.size
abbrev G1 := Option (Array Nat) × Array Nat × Nat × Nat × Nat × Nat
abbrev G3 := (Option (Array Nat) × Array Nat × Nat × Nat × Nat × Nat × Nat) × Nat
abbrev G0 := (Option (Array Nat) × Array Nat × Nat × Nat × Nat) × Nat
def lo1 (c : Nat → Nat → Option Bool) (a b : Array Nat) (mg : Nat) (g : G1) : Option (Bool × G1) :=
  b[g.2.2.2.1]?.bind fun y => a[g.2.2.1]?.bind fun x => (c y x).bind fun q =>
    if q = true then
      if (g.2.2.2.1 + 1 == b.size) = true then some (true, some (loDone a b (g.2.1.push y) g.2.2.1 (g.2.2.2.1 + 1)), g.2.1.push y, g.2.2.1, g.2.2.2.1 + 1, 0, g.2.2.2.2.2 + 1)
      else if g.2.2.2.2.2 + 1 ≥ mg then some (true, none, g.2.1.push y, g.2.2.1, g.2.2.2.1 + 1, 0, g.2.2.2.2.2 + 1)
      else some (false, none, g.2.1.push y, g.2.2.1, g.2.2.2.1 + 1, 0, g.2.2.2.2.2 + 1)
    else
      if (g.2.2.1 + 1 + 1 == a.size) = true then some (true, some (loLast a b (g.2.1.push x) (g.2.2.1 + 1) g.2.2.2.1), g.2.1.push x, g.2.2.1 + 1, g.2.2.2.1, g.2.2.2.2.1 + 1, 0)
      else if g.2.2.2.2.1 + 1 ≥ mg then some (true, none, g.2.1.push x, g.2.2.1 + 1, g.2.2.2.1, g.2.2.2.2.1 + 1, 0)
      else some (false, none, g.2.1.push x, g.2.2.1 + 1, g.2.2.2.1, g.2.2.2.2.1 + 1, 0)
/-- behind the second search -/
def lo3c (a b out : Array Nat) (x ia ib mg k k2 : Nat) : Option (Bool × G3) :=
    if (ia + 1 + 1 == a.size) = true then some (true, (some (loLast a b (out.push x) (ia + 1) ib), out.push x, ia + 1, ib, mg, k, k2), mg)
    else if (decide (k < 7) && decide (k2 < 7)) = true then some (true, (none, out.push x, ia + 1, ib, mg, k, k2), mg)
    else some (false, (none, out.push x, ia + 1, ib, mg, k, k2), mg)
/-- behind the first search -/
def lo3b (c : Nat → Nat → Option Bool) (a b out : Array Nat) (y ia ib mg k bc : Nat) : Option (Bool × G3) :=
    if (ib + 1 == b.size) = true then some (true, (some (loDone a b (out.push y) ia (ib + 1)), out.push y, ia, ib + 1, mg, k, bc), mg)
    else a[ia]?.bind fun x => (gal c true x b (ib + 1) (b.size - (ib + 1)) 0).bind fun k2 =>
      if k2 > 0 then
        if (ib + 1 + k2 == b.size) = true then some (true, (some (loDone a b (out.push y ++ b.extract (ib + 1) (ib + 1 + k2)) ia (ib + 1 + k2)), out.push y ++ b.extract (ib + 1) (ib + 1 + k2), ia, ib + 1 + k2, mg, k, k2), mg)
        else lo3c a b (out.push y ++ b.extract (ib + 1) (ib + 1 + k2)) x ia (ib + 1 + k2) mg k k2
      else lo3c a b (out.push y) x ia (ib + 1) mg k k2
def lo3a (c : Nat → Nat → Option Bool) (a b out : Array Nat) (ia ib mg bc : Nat) : Option (Bool × G3) :=
  b[ib]?.bind fun y => (gal c false y a ia (a.size - ia) 0).bind fun k =>
    if k > 0 then
      if (ia + k + 1 == a.size) = true then some (true, (some (loLast a b (out ++ a.extract ia (ia + k)) (ia + k) ib), out ++ a.extract ia (ia + k), ia + k, ib, mg, k, bc), mg)
      else if (ia + k == a.size) = true then some (true, (some (loDone a b (out ++ a.extract ia (ia + k)) (ia + k) ib), out ++ a.extract ia (ia + k), ia + k, ib, mg, k, bc), mg)
      else lo3b c a b (out ++ a.extract ia (ia + k)) y (ia + k) ib mg k bc
    else lo3b c a b out y ia ib mg k bc
def lo3 (c : Nat → Nat → Option Bool) (a b : Array Nat) (g : G3) : Option (Bool × G3) :=
  if g.1.2.2.2.2.1 > 1 then lo3a c a b g.1.2.1 g.1.2.2.1 g.1.2.2.2.1 (g.1.2.2.2.2.1 - 1) g.1.2.2.2.2.2.2
  else lo3a c a b g.1.2.1 g.1.2.2.1 g.1.2.2.2.1 g.1.2.2.2.2.1 g.1.2.2.2.2.2.2
def lo0 (c : Nat → Nat → Option Bool) (a b : Array Nat) (g : G0) : Option (Bool × G0) :=
  (iter (lo1 c a b g.1.2.2.2.2) (a.size + b.size) (none, g.1.2.1, g.1.2.2.1, g.1.2.2.2.1, 0, 0)).bind fun t =>
    match t.1 with
    | some r => some (true, (some r, t.2.1, t.2.2.1, t.2.2.2.1, g.1.2.2.2.2), g.2)
    | none => (iter (lo3 c a b) (a.size + b.size) ((none, t.2.1, t.2.2.1, t.2.2.2.1, g.1.2.2.2.2 + 1, t.2.2.2.2.1, t.2.2.2.2.2), g.2)).map fun u =>
      match u.1.1 with
      | some r => (true, (some r, u.1.2.1, u.1.2.2.1, u.1.2.2.2.1, u.1.2.2.2.2.1), u.2)
      | none => (false, (none, u.1.2.1, u.1.2.2.1, u.1.2.2.2.1, u.1.2.2.2.2.1 + 1), u.1.2.2.2.2.1 + 1)
def mLo (c : Nat → Nat → Option Bool) (a b : Array Nat) (sg : Nat) : Option (Array Nat × Nat) :=
  b[0]?.bind fun y =>
    if (1 == b.size) = true then some (loDone a b #[y] 0 1, sg)
    else if (0 + 1 == a.size) = true then some (loLast a b #[y] 0 1, sg)
    else (iter (lo0 c a b) (a.size + b.size) ((none, #[y], 0, 1, sg), sg)).bind fun t => t.1.1.map fun r => (r, t.2)
abbrev stG (st : SortSt) (g : Nat) : SortSt := SortSt.mk' (kindOf st) (arrOf st) (pendingOf st) g (failedOf st)
theorem loDone_map (a b out : Array Nat) (ia ib : Nat) : (loDone a b out ia ib).map item = out.map item ++ (a.map item).extract ia (a.map item).size ++ (b.map item).extract ib (b.map item).size := by
  unfold loDone
  simp
theorem loLast_map (a b out : Array Nat) (ia ib : Nat) : (loLast a b out ia ib).map item = out.map item ++ (b.map item).extract ib (b.map item).size ++ (a.map item).extract ia (a.map item).size := by
  unfold loLast
  simp
theorem setG_ {st : SortSt} {g : Nat} {Q : PUnit → SortSt → Prop} (h : Q ⟨⟩ (stG st g)) : wpS (model prog w) A E s (setMinGallop' g) Q st := by
  walk_at "bare"
  exact wpS_modify h
theorem told_elemP {st : SortSt} {arr : Array Nat} {i x : Nat} (h : arr[i]? = some x) {Q : Keyed → SortSt → Prop} (hq : Q (item x) st) : wpS (model prog w) A E s ((sortPriv% PySem.Builtin.elem) (arr.map item) i) Q st := told_elem h hq
theorem told_ltP (hc : Told kd prog w A s item c) {st : SortSt} (hk : kindOf st = kd) {i j : Nat} {b : Bool} (h : c i j = some b) {Q : Option Bool → SortSt → Prop} (hq : Q (some b) st) : wpS (model prog w) A E s ((sortPriv% PySem.Builtin.lt) (item i) (item j)) Q st := told_lt hc hk h hq
theorem told_galP (hc : Told kd prog w A s item c) {st : SortSt} (hk : kindOf st = kd) {left : Bool} {key : Nat} {arr : Array Nat} {base n hint k : Nat} (h : gal c left key arr base n hint = some k) {Q : Option Nat → SortSt → Prop} (hq : Q (some k) st) :
    wpS (model prog w) A E s ((sortPriv% PySem.Builtin.gallop) left (item key) (arr.map item) base n hint) Q st := told_gal hc hk h hq
theorem setG_P {st : SortSt} {g : Nat} {Q : PUnit → SortSt → Prop} (h : Q ⟨⟩ (stG st g)) : wpS (model prog w) A E s ((sortPriv% PySem.Builtin.setMinGallop) g) Q st := setG_ h
set_option maxHeartbeats 4000000 in
theorem told_mLo (hc : Told kd prog w A s item c) {st : SortSt} (hk : kindOf st = kd) {a b out : Array Nat} {g : Nat} (h : mLo c a b (gallopOf st) = some (out, g)) {Q : Array Keyed → SortSt → Prop} (hq : Q (out.map item) (stG st g)) :
    wpS (model prog w) A E s (mergeLo' (a.map item) (b.map item)) Q st := by
  obtain ⟨κ, ar, pd, g0, fl⟩ := st
  walk_at "bare"
  dsimp only
  refine wpS_bind (wpS_lift (wpAny_rule ⟨rfl, ?_⟩))
  unfold mLo at h
  obtain ⟨y, hy, h⟩ := Option.bind_eq_some_iff.mp h
  refine wpS_bind (told_elem hy ?_)
  have ey : (#[item y] : Array Keyed) = (#[y] : Array Nat).map item := by simp
  simp only [Array.size_map, ey]
  by_cases e1 : (1 == b.size) = true
  · rw [if_pos e1] at h ⊢
    cases h
    rw [loDone_map] at hq
    simp only [Array.size_map] at hq
    exact wpS_pure hq
  rw [if_neg e1] at h ⊢
  by_cases e2 : (0 + 1 == a.size) = true
  · rw [if_pos e2] at h ⊢
    cases h
    rw [loLast_map] at hq
    simp only [Array.size_map] at hq
    exact wpS_pure hq
  rw [if_neg e2] at h ⊢
  refine wpS_bind (wpS_get ?_)
  obtain ⟨t, h0, h⟩ := Option.bind_eq_some_iff.mp h
  obtain ⟨r, hr, h⟩ := Option.map_eq_some_iff.mp h
  cases h
  refine wpS_bind (wpS_iter (γ := G0) (step := lo0 c a b) (fun g => (g.1.1.map (·.map item), g.1.2.1.map item, g.1.2.2.1, g.1.2.2.2.1, g.1.2.2.2.2)) (fun g => SortSt.mk' κ ar pd g.2 fl) (fun x g r hs R hR => ?_) (a := 0) (b := a.size + b.size) (g := ((none, #[y], 0, 1, g0), g0)) (g' := t) h0 ?_)
  · unfold lo0 at hs
    obtain ⟨t1, h1, hs⟩ := Option.bind_eq_some_iff.mp hs
    dsimp only
    refine wpS_bind (wpS_iter (γ := G1) (step := lo1 c a b g.1.2.2.2.2) (fun g => (g.1.map (·.map item), g.2.1.map item, g.2.2.1, g.2.2.2.1, g.2.2.2.2.1, g.2.2.2.2.2)) (fun _ => SortSt.mk' κ ar pd g.2 fl) (fun x u r hs R hR => ?_) (a := 0) (b := a.size + b.size) (g := (none, g.1.2.1, g.1.2.2.1, g.1.2.2.2.1, 0, 0)) (g' := t1) h1 ?_)
    · unfold lo1 at hs
      obtain ⟨y, hy, hs⟩ := Option.bind_eq_some_iff.mp hs
      obtain ⟨x, hx, hs⟩ := Option.bind_eq_some_iff.mp hs
      obtain ⟨q, hq, hs⟩ := Option.bind_eq_some_iff.mp hs
      dsimp only
      have hk2 : kindOf (SortSt.mk' κ ar pd g.2 fl) = kd := hk
      walk_at "tw_all"
    · dsimp only
      cases e : t1.1 with
      | some r =>
        rw [e] at hs
        cases hs
        exact wpS_pure hR
      | none =>
        rw [e] at hs
        obtain ⟨t3, h3, hs⟩ := Option.map_eq_some_iff.mp hs
        simp only [Option.map_none]
        refine wpS_bind (wpS_lift (wpAny_rule ⟨rfl, ?_⟩))
        refine wpS_bind (wpS_iter (γ := G3) (step := lo3 c a b) (fun g => (g.1.1.map (·.map item), g.1.2.1.map item, g.1.2.2.1, g.1.2.2.2.1, g.1.2.2.2.2.1, g.1.2.2.2.2.2.1, g.1.2.2.2.2.2.2)) (fun g => SortSt.mk' κ ar pd g.2 fl) (fun x u r hs R hR => ?_) (a := 0) (b := a.size + b.size) (g := ((none, t1.2.1, t1.2.2.1, t1.2.2.2.1, g.1.2.2.2.2 + 1, t1.2.2.2.2.1, t1.2.2.2.2.2), g.2)) (g' := t3) h3 ?_)
        · have hk2 : ∀ g, kindOf (SortSt.mk' κ ar pd g fl) = kd := fun _ => hk
          unfold lo3 lo3a lo3b lo3c at hs
          dsimp only
          by_cases m : u.1.2.2.2.2.1 > 1
          · rw [if_pos m] at hs ⊢
            have hk3 := hk2 (u.1.2.2.2.2.1 - 1)
            walk_at "tw_all"
          · rw [if_neg m] at hs ⊢
            have hk3 := hk2 u.1.2.2.2.2.1
            walk_at "tw_all"
        · dsimp only
          cases e : t3.1.1 with
          | some r =>
            rw [e] at hs
            cases hs
            exact wpS_pure hR
          | none =>
            rw [e] at hs
            cases hs
            simp only [Option.map_none]
            exact wpS_bind (setG_ (wpS_pure hR))
  · dsimp only
    rw [hr]
    exact wpS_pure hq
end
end L2
namespace L2
open PySem PyProof.Rows
section
variable {prog : Program} {w : World} {A : Around} {E : Value → Shared → Prop} {s : Shared} {item : Nat → Keyed} {c : Nat → Nat → Option Bool} {kd : SortKind}
/-! the merge from the right -/
def hiDone (a b out : Array Nat) (na nb : Nat) : Array Nat := a.extract 0 na ++ b.extract 0 nb ++ out.reverse
def hiFirst (a b out : Array Nat) (na nb : Nat) : Array Nat := b.extract 0 nb ++ a.extract 0 na ++ out.reverse
abbrev H1 := Option (Array Nat) × Nat × Nat × Array Nat × Nat × Nat
abbrev H3 := (Option (Array Nat) × Nat × Nat × Array Nat × Nat × Nat × Nat) × Nat
abbrev H0 := (Option (Array Nat) × Nat × Nat × Array Nat × Nat) × Nat
def hi1 (c : Nat → Nat → Option Bool) (a b : Array Nat) (mg : Nat) (g : H1) : Option (Bool × H1) :=
  b[g.2.2.1 - 1]?.bind fun y => a[g.2.1 - 1]?.bind fun x => (c y x).bind fun q =>
    if q = true then
      if (g.2.1 - 1 == 0) = true then some (true, some (hiDone a b (g.2.2.2.1.push x) (g.2.1 - 1) g.2.2.1), g.2.1 - 1, g.2.2.1, g.2.2.2.1.push x, g.2.2.2.2.1 + 1, 0)
      else if g.2.2.2.2.1 + 1 ≥ mg then some (true, none, g.2.1 - 1, g.2.2.1, g.2.2.2.1.push x, g.2.2.2.2.1 + 1, 0)
      else some (false, none, g.2.1 - 1, g.2.2.1, g.2.2.2.1.push x, g.2.2.2.2.1 + 1, 0)
    else
      if (g.2.2.1 - 1 == 1) = true then some (true, some (hiFirst a b (g.2.2.2.1.push y) g.2.1 (g.2.2.1 - 1)), g.2.1, g.2.2.1 - 1, g.2.2.2.1.push y, 0, g.2.2.2.2.2 + 1)
      else if g.2.2.2.2.2 + 1 ≥ mg then some (true, none, g.2.1, g.2.2.1 - 1, g.2.2.2.1.push y, 0, g.2.2.2.2.2 + 1)
      else some (false, none, g.2.1, g.2.2.1 - 1, g.2.2.2.1.push y, 0, g.2.2.2.2.2 + 1)
/-- behind the second search -/
def hi3c (a b out : Array Nat) (x na nb mg k k2 : Nat) : Option (Bool × H3) :=
    if (na - 1 == 0) = true then some (true, (some (hiDone a b (out.push x) (na - 1) nb), na - 1, nb, out.push x, mg, k, k2), mg)
    else if (decide (k < 7) && decide (k2 < 7)) = true then some (true, (none, na - 1, nb, out.push x, mg, k, k2), mg)
    else some (false, (none, na - 1, nb, out.push x, mg, k, k2), mg)
/-- behind the first search -/
def hi3b (c : Nat → Nat → Option Bool) (a b out : Array Nat) (y na nb mg k bc : Nat) : Option (Bool × H3) :=
    if (nb - 1 == 1) = true then some (true, (some (hiFirst a b (out.push y) na (nb - 1)), na, nb - 1, out.push y, mg, k, bc), mg)
    else a[na - 1]?.bind fun x => (gal c true x b 0 (nb - 1) (nb - 1 - 1)).bind fun at2 =>
      if nb - 1 - at2 > 0 then
        if (at2 == 1) = true then some (true, (some (hiFirst a b (out.push y ++ (b.extract at2 (nb - 1)).reverse) na at2), na, at2, out.push y ++ (b.extract at2 (nb - 1)).reverse, mg, k, nb - 1 - at2), mg)
        else if (at2 == 0) = true then some (true, (some (hiDone a b (out.push y ++ (b.extract at2 (nb - 1)).reverse) na at2), na, at2, out.push y ++ (b.extract at2 (nb - 1)).reverse, mg, k, nb - 1 - at2), mg)
        else hi3c a b (out.push y ++ (b.extract at2 (nb - 1)).reverse) x na at2 mg k (nb - 1 - at2)
      else hi3c a b (out.push y) x na (nb - 1) mg k (nb - 1 - at2)
def hi3a (c : Nat → Nat → Option Bool) (a b out : Array Nat) (na nb mg bc : Nat) : Option (Bool × H3) :=
  b[nb - 1]?.bind fun y => (gal c false y a 0 na (na - 1)).bind fun at1 =>
    if na - at1 > 0 then
      if (at1 == 0) = true then some (true, (some (hiDone a b (out ++ (a.extract at1 na).reverse) at1 nb), at1, nb, out ++ (a.extract at1 na).reverse, mg, na - at1, bc), mg)
      else hi3b c a b (out ++ (a.extract at1 na).reverse) y at1 nb mg (na - at1) bc
    else hi3b c a b out y na nb mg (na - at1) bc
def hi3 (c : Nat → Nat → Option Bool) (a b : Array Nat) (g : H3) : Option (Bool × H3) :=
  if g.1.2.2.2.2.1 > 1 then hi3a c a b g.1.2.2.2.1 g.1.2.1 g.1.2.2.1 (g.1.2.2.2.2.1 - 1) g.1.2.2.2.2.2.2
  else hi3a c a b g.1.2.2.2.1 g.1.2.1 g.1.2.2.1 g.1.2.2.2.2.1 g.1.2.2.2.2.2.2
def hi0 (c : Nat → Nat → Option Bool) (a b : Array Nat) (g : H0) : Option (Bool × H0) :=
  (iter (hi1 c a b g.1.2.2.2.2) (a.size + b.size) (none, g.1.2.1, g.1.2.2.1, g.1.2.2.2.1, 0, 0)).bind fun t =>
    match t.1 with
    | some r => some (true, (some r, t.2.1, t.2.2.1, t.2.2.2.1, g.1.2.2.2.2), g.2)
    | none => (iter (hi3 c a b) (a.size + b.size) ((none, t.2.1, t.2.2.1, t.2.2.2.1, g.1.2.2.2.2 + 1, t.2.2.2.2.1, t.2.2.2.2.2), g.2)).map fun u =>
      match u.1.1 with
      | some r => (true, (some r, u.1.2.1, u.1.2.2.1, u.1.2.2.2.1, u.1.2.2.2.2.1), u.2)
      | none => (false, (none, u.1.2.1, u.1.2.2.1, u.1.2.2.2.1, u.1.2.2.2.2.1 + 1), u.1.2.2.2.2.1 + 1)
def mHi (c : Nat → Nat → Option Bool) (a b : Array Nat) (sg : Nat) : Option (Array Nat × Nat) :=
  a[a.size - 1]?.bind fun x =>
    if (a.size - 1 == 0) = true then some (hiDone a b #[x] (a.size - 1) b.size, sg)
    else if (b.size == 1) = true then some (hiFirst a b #[x] (a.size - 1) b.size, sg)
    else (iter (hi0 c a b) (a.size + b.size) ((none, a.size - 1, b.size, #[x], sg), sg)).bind fun t => t.1.1.map fun r => (r, t.2)
theorem hiDone_map (a b out : Array Nat) (na nb : Nat) : (hiDone a b out na nb).map item = (a.map item).extract 0 na ++ (b.map item).extract 0 nb ++ (out.map item).reverse := by
  unfold hiDone
  simp
theorem hiFirst_map (a b out : Array Nat) (na nb : Nat) : (hiFirst a b out na nb).map item = (b.map item).extract 0 nb ++ (a.map item).extract 0 na ++ (out.map item).reverse := by
  unfold hiFirst
  simp
set_option maxHeartbeats 4000000 in
theorem told_mHi (hc : Told kd prog w A s item c) {st : SortSt} (hk : kindOf st = kd) {a b out : Array Nat} {g : Nat} (h : mHi c a b (gallopOf st) = some (out, g)) {Q : Array Keyed → SortSt → Prop} (hq : Q (out.map item) (stG st g)) :
    wpS (model prog w) A E s (mergeHi' (a.map item) (b.map item)) Q st := by
  obtain ⟨κ, ar, pd, g0, fl⟩ := st
  walk_at "bare"
  dsimp only
  refine wpS_bind (wpS_lift (wpAny_rule ⟨rfl, ?_⟩))
  unfold mHi at h
  obtain ⟨y, hy, h⟩ := Option.bind_eq_some_iff.mp h
  simp only [Array.size_map]
  refine wpS_bind (told_elem hy ?_)
  have ey : (#[item y] : Array Keyed) = (#[y] : Array Nat).map item := by simp
  simp only [ey]
  by_cases e1 : (a.size - 1 == 0) = true
  · rw [if_pos e1] at h ⊢
    cases h
    rw [hiDone_map] at hq
    exact wpS_pure hq
  rw [if_neg e1] at h ⊢
  by_cases e2 : (b.size == 1) = true
  · rw [if_pos e2] at h ⊢
    cases h
    rw [hiFirst_map] at hq
    exact wpS_pure hq
  rw [if_neg e2] at h ⊢
  refine wpS_bind (wpS_get ?_)
  obtain ⟨t, h0, h⟩ := Option.bind_eq_some_iff.mp h
  obtain ⟨r, hr, h⟩ := Option.map_eq_some_iff.mp h
  cases h
  refine wpS_bind (wpS_iter (γ := H0) (step := hi0 c a b) (fun g => (g.1.1.map (·.map item), g.1.2.1, g.1.2.2.1, g.1.2.2.2.1.map item, g.1.2.2.2.2)) (fun g => SortSt.mk' κ ar pd g.2 fl) (fun x g r hs R hR => ?_) (a := 0) (b := a.size + b.size) (g := ((none, a.size - 1, b.size, #[y], g0), g0)) (g' := t) h0 ?_)
  · unfold hi0 at hs
    obtain ⟨t1, h1, hs⟩ := Option.bind_eq_some_iff.mp hs
    dsimp only
    refine wpS_bind (wpS_iter (γ := H1) (step := hi1 c a b g.1.2.2.2.2) (fun g => (g.1.map (·.map item), g.2.1, g.2.2.1, g.2.2.2.1.map item, g.2.2.2.2.1, g.2.2.2.2.2)) (fun _ => SortSt.mk' κ ar pd g.2 fl) (fun x u r hs R hR => ?_) (a := 0) (b := a.size + b.size) (g := (none, g.1.2.1, g.1.2.2.1, g.1.2.2.2.1, 0, 0)) (g' := t1) h1 ?_)
    · unfold hi1 at hs
      dsimp only
      have hk2 : kindOf (SortSt.mk' κ ar pd g.2 fl) = kd := hk
      walk_at "tw_hi"
    · dsimp only
      cases e : t1.1 with
      | some r =>
        rw [e] at hs
        cases hs
        exact wpS_pure hR
      | none =>
        rw [e] at hs
        obtain ⟨t3, h3, hs⟩ := Option.map_eq_some_iff.mp hs
        simp only [Option.map_none]
        refine wpS_bind (wpS_lift (wpAny_rule ⟨rfl, ?_⟩))
        refine wpS_bind (wpS_iter (γ := H3) (step := hi3 c a b) (fun g => (g.1.1.map (·.map item), g.1.2.1, g.1.2.2.1, g.1.2.2.2.1.map item, g.1.2.2.2.2.1, g.1.2.2.2.2.2.1, g.1.2.2.2.2.2.2)) (fun g => SortSt.mk' κ ar pd g.2 fl) (fun x u r hs R hR => ?_) (a := 0) (b := a.size + b.size) (g := ((none, t1.2.1, t1.2.2.1, t1.2.2.2.1, g.1.2.2.2.2 + 1, t1.2.2.2.2.1, t1.2.2.2.2.2), g.2)) (g' := t3) h3 ?_)
        · have hk2 : ∀ g, kindOf (SortSt.mk' κ ar pd g fl) = kd := fun _ => hk
          unfold hi3 hi3a hi3b hi3c at hs
          dsimp only
          by_cases m : u.1.2.2.2.2.1 > 1
          · rw [if_pos m] at hs ⊢
            have hk3 := hk2 (u.1.2.2.2.2.1 - 1)
            walk_at "tw_hi"
          · rw [if_neg m] at hs ⊢
            have hk3 := hk2 u.1.2.2.2.2.1
            walk_at "tw_hi"
        · dsimp only
          cases e : t3.1.1 with
          | some r =>
            rw [e] at hs
            cases hs
            exact wpS_pure hR
          | none =>
            rw [e] at hs
            cases hs
            simp only [Option.map_none]
            exact wpS_bind (setG_ (wpS_pure hR))
  · dsimp only
    rw [hr]
    exact wpS_pure hq
end
end L2
namespace L2
open PySem PyProof.Rows
/-- a loop that counts -/
def iterI {γ : Type} (step : Nat → γ → Option (Bool × γ)) : Nat → Nat → γ → Option γ
  | 0, _, g => some g
  | f + 1, i, g => (step i g).bind fun r => if r.1 = true then some r.2 else iterI step f (i + 1) r.2
section
variable {M : Model} {A : Around} {E : Value → Shared → Prop} {s : Shared} {σ : Type}
theorem wpS_iterI {β γ : Type} {step : Nat → γ → Option (Bool × γ)} (φ : γ → β) (τ : γ → σ) {f : Nat → β → StateT σ Sem (ForInStep β)} {Q : β → σ → Prop}
    (hs : ∀ x g r, step x g = some r → ∀ R : ForInStep β → σ → Prop, R (if r.1 = true then .done (φ r.2) else .yield (φ r.2)) (τ r.2) → wpS M A E s (f x (φ g)) R (τ g))
    {a b : Nat} {g g' : γ} (h : iterI step (b - a) a g = some g') (hq : Q (φ g') (τ g')) : wpS M A E s (forIn [a:b] (φ g) f) Q (τ g) := by
  rw [Std.Legacy.Range.forIn_eq_forIn_range']
  have hsz : ([a:b] : Std.Legacy.Range).size = b - a := by simp [Std.Legacy.Range.size]
  show wpS M A E s (forIn (List.range' a ([a:b] : Std.Legacy.Range).size 1) (φ g) f) Q (τ g)
  rw [hsz]
  have go : ∀ (k i : Nat) (g : γ), iterI step k i g = some g' → wpS M A E s (forIn (List.range' i k 1) (φ g) f) Q (τ g) := by
    intro k
    induction k with
    | zero =>
      intro i g h
      cases h
      rw [List.range'_zero, List.forIn_nil]
      exact wpS_pure hq
    | succ k ih =>
      intro i g h
      rw [List.range'_succ, List.forIn_cons]
      unfold iterI at h
      obtain ⟨r, hr, h⟩ := Option.bind_eq_some_iff.mp h
      refine wpS_bind (hs i g r hr _ ?_)
      by_cases hd : r.1 = true
      · rw [if_pos hd] at h ⊢
        cases h
        exact wpS_pure hq
      · rw [if_neg hd] at h ⊢
        exact ih (i + 1) r.2 h
  exact go _ a g h
end
section
variable {prog : Program} {w : World} {A : Around} {E : Value → Shared → Prop} {s : Shared} {item : Nat → Keyed} {c : Nat → Nat → Option Bool} {kd : SortKind} {pd : Array (Nat × Nat × Nat)} {g : Nat}
abbrev sst (kd : SortKind) (item : Nat → Keyed) (p : Array Nat) (pd : Array (Nat × Nat × Nat)) (g : Nat) : SortSt := SortSt.mk' kd (p.map item) pd g none
def cAt (c : Nat → Nat → Option Bool) (p : Array Nat) (i j : Nat) : Option Bool := p[i]?.bind fun x => p[j]?.bind fun y => c x y
theorem told_at (hc : Told kd prog w A s item c) {p : Array Nat} {i j : Nat} {b : Bool} (h : cAt c p i j = some b) {Q : Option Bool → SortSt → Prop} (hq : Q (some b) (sst kd item p pd g)) : wpS (model prog w) A E s (ltAt' i j) Q (sst kd item p pd g) := by
  obtain ⟨x, hx, h⟩ := Option.bind_eq_some_iff.mp h
  obtain ⟨y, hy, h⟩ := Option.bind_eq_some_iff.mp h
  rw [ltAt'_eq]
  refine wpS_bind (wpS_get ?_)
  dsimp only
  exact wpS_bind (told_elem hx (wpS_bind (told_elem hy (told_lt hc rfl h hq))))
def rev (p : Array Nat) (i j : Nat) : Array Nat := mirror p i j ((j - i) / 2)
theorem told_rev {p : Array Nat} {i j : Nat} {Q : Unit → SortSt → Prop} (h : Q () (sst kd item (rev p i j) pd g)) : wpS (model prog w) A E s (reverseSlice' i j) Q (sst kd item p pd g) := by
  rw [reverseSlice'_eq]
  refine wpS_modify ?_
  have e1 : mirror (p.map item) i j ((j - i) / 2) = (rev p i j).map item := PySem.W.kas_swaps_map item (fun k => i + k) (fun k => j - 1 - k) _ p
  show Q () (SortSt.mk' kd (mirror (p.map item) i j ((j - i) / 2)) pd g none)
  rw [e1]
  exact h
theorem told_move {p : Array Nat} {k l : Nat} {Q : Unit → SortSt → Prop} (h : Q () (sst kd item (bubble p k (k - l)) pd g)) : wpS (model prog w) A E s (moveDown' k l) Q (sst kd item p pd g) := by
  rw [moveDown'_eq]
  refine wpS_modify ?_
  have e1 : bubble (p.map item) k (k - l) = (bubble p k (k - l)).map item := PySem.W.kas_swaps_map item (fun i => k - i) (fun i => k - i - 1) _ p
  show Q () (SortSt.mk' kd (bubble (p.map item) k (k - l)) pd g none)
  rw [e1]
  exact h
/-! runs -/
def cAsc (c : Nat → Nat → Option Bool) (p : Array Nat) (l : Nat) (m : Nat) : Option (Bool × Nat) := (cAt c p (l + m) (l + m - 1)).map fun q => if q = true then (true, m) else (false, m + 1)
def cDesc (c : Nat → Nat → Option Bool) (l : Nat) (t : Array Nat × Nat × Nat) : Option (Bool × Array Nat × Nat × Nat) :=
  (cAt c t.1 (l + t.2.1) (l + t.2.1 - 1)).bind fun q =>
    if q = true then if t.2.2 > 0 then some (false, rev t.1 (l + t.2.1 - (t.2.2 + 1)) (l + t.2.1), t.2.1 + 1, 0) else some (false, t.1, t.2.1 + 1, 0)
    else (cAt c t.1 (l + t.2.1 - 1) (l + t.2.1)).bind fun r => if r = true then some (true, t.1, t.2.1, t.2.2) else some (false, t.1, t.2.1 + 1, t.2.2 + 1)
def cTail (c : Nat → Nat → Option Bool) (l n : Nat) (p : Array Nat) (m : Nat) : Option (Nat × Array Nat) := (iter (cAsc c (rev p l (l + m)) l) (n - m) m).map fun k => (k, rev p l (l + m))
def cDown (c : Nat → Nat → Option Bool) (l n : Nat) (p : Array Nat) (m : Nat) : Option (Nat × Array Nat) :=
  (iter (cDesc c l) (n - (m + 1)) (p, m + 1, 0)).bind fun t => if t.2.2 > 0 then cTail c l n (rev t.1 (l + t.2.1 - (t.2.2 + 1)) (l + t.2.1)) t.2.1 else cTail c l n t.1 t.2.1
def cRun (c : Nat → Nat → Option Bool) (l n : Nat) (p : Array Nat) : Option (Nat × Array Nat) :=
  (iter (cAsc c p l) (n - 1) 1).bind fun m => if (m == n) = true then some (m, p) else if m > 1 then (cAt c p l (l + m - 1)).bind fun q => if q = true then some (m, p) else cDown c l n (rev p l (l + m)) m else cDown c l n p m
set_option maxHeartbeats 2000000 in
theorem told_run (hc : Told kd prog w A s item c) {l n k : Nat} {p p' : Array Nat} (h : cRun c l n p = some (k, p')) {Q : Option Nat → SortSt → Prop} (hq : Q (some k) (sst kd item p' pd g)) : wpS (model prog w) A E s (countRun' l n) Q (sst kd item p pd g) := by
  walk_at "bare"
  dsimp only
  unfold cRun at h
  obtain ⟨m, h0, h⟩ := Option.bind_eq_some_iff.mp h
  have hz := h0
  walk_at "tw_asc"
  dsimp only
  by_cases e1 : (m == n) = true
  · rw [if_pos e1] at h ⊢
    cases h
    exact wpS_pure hq
  rw [if_neg e1] at h ⊢
  by_cases e2 : m > 1
  · rw [if_pos e2] at h ⊢
    obtain ⟨q, hq1, h⟩ := Option.bind_eq_some_iff.mp h
    refine wpS_bind (told_at hc hq1 ?_)
    dsimp only
    by_cases e3 : q = true
    · rw [if_pos e3] at h ⊢
      cases h
      exact wpS_pure hq
    rw [if_neg e3] at h ⊢
    refine wpS_bind (told_rev ?_)
    unfold cDown cTail at h
    walk_at "tw_down"
  · rw [if_neg e2] at h ⊢
    unfold cDown cTail at h
    walk_at "tw_down"
/-! insertion -/
def bPl (c : Nat → Nat → Option Bool) (p : Array Nat) (l k : Nat) (t : Nat × Nat) : Option (Bool × Nat × Nat) :=
  if t.1 ≥ t.2 then some (true, t.1, t.2) else (cAt c p (l + k) (l + (t.1 + t.2) / 2)).bind fun q => if q = true then some (false, t.1, (t.1 + t.2) / 2) else some (false, (t.1 + t.2) / 2 + 1, t.2)
def bIns (c : Nat → Nat → Option Bool) (l k : Nat) (p : Array Nat) : Option (Bool × Array Nat) := (iter (bPl c p l k) k (0, k)).map fun t => (false, bubble p (l + k) (l + k - (l + t.1)))
def bSort (c : Nat → Nat → Option Bool) (l n ok : Nat) (p : Array Nat) : Option (Array Nat) := iterI (bIns c l) (n - max ok 1) (max ok 1) p
theorem told_bin (hc : Told kd prog w A s item c) {l n ok : Nat} {p p' : Array Nat} (h : bSort c l n ok p = some p') {Q : Bool → SortSt → Prop} (hq : Q true (sst kd item p' pd g)) : wpS (model prog w) A E s (binarySort' l n ok) Q (sst kd item p pd g) := by
  walk_at "bare"
  dsimp only
  refine wpS_bind (wpS_iterI (γ := Array Nat) (step := bIns c l) (fun _ => (none, ())) (fun p => sst kd item p pd g) (fun k p r hs R hR => ?_) h (wpS_pure hq))
  obtain ⟨t, ht, rfl⟩ := Option.map_eq_some_iff.mp hs
  refine wpS_bind (wpS_iter (γ := Nat × Nat) (step := bPl c p l k) (fun t => (none, t.1, t.2)) (fun _ => sst kd item p pd g) (fun x t r hs R hR => ?_) (a := 0) (b := k) ht ?_)
  · unfold bPl at hs
    dsimp only
    by_cases e : t.1 ≥ t.2
    · rw [if_pos e] at hs ⊢
      cases hs
      exact wpS_pure hR
    · rw [if_neg e] at hs ⊢
      obtain ⟨q, hq1, hs⟩ := Option.bind_eq_some_iff.mp hs
      refine wpS_bind (told_at hc hq1 ?_)
      cases q <;> (cases hs; exact wpS_pure hR)
  · exact wpS_bind (told_move (wpS_pure hR))
end
end L2
namespace L2
open PySem PyProof.Rows
section
variable {prog : Program} {w : World} {A : Around} {E : Value → Shared → Prop} {s : Shared} {item : Nat → Keyed} {c : Nat → Nat → Option Bool} {kd : SortKind}
abbrev Pd := Array (Nat × Nat × Nat)
/-- laid over from place o on -/
def lay (p : Array Nat) (o : Nat) (xs : Array Nat) : Array Nat := xs.toList.zipIdx.foldl (fun a x => a.setIfInBounds (o + x.2) x.1) p
theorem lay_map (p : Array Nat) (o : Nat) (xs : Array Nat) : (xs.map item).toList.zipIdx.foldl (fun a x => a.setIfInBounds (o + x.2) x.1) (p.map item) = (lay p o xs).map item := by
  have go : ∀ (l : List Nat) (k : Nat) (p : Array Nat), ((l.map item).zipIdx k).foldl (fun a x => a.setIfInBounds (o + x.2) x.1) (p.map item) = ((l.zipIdx k).foldl (fun a x => a.setIfInBounds (o + x.2) x.1) p).map item := by
    intro l
    induction l with
    | nil => intro k p; rfl
    | cons x l ih =>
      intro k p
      rw [List.map_cons, List.zipIdx_cons, List.zipIdx_cons, List.foldl_cons, List.foldl_cons]
      rw [show (p.map item).setIfInBounds (o + k) (item x) = (p.setIfInBounds (o + k) x).map item from (Array.map_setIfInBounds ..).symm]
      exact ih _ _
  rw [Array.toList_map]
  exact go _ 0 p
abbrev Ts := Array Nat × Pd × Nat
def mAt (c : Nat → Nat → Option Bool) (i : Nat) (t : Ts) : Option Ts :=
  t.2.1[i]?.bind fun u => t.2.1[i + 1]?.bind fun v => t.1[v.1]?.bind fun y => (gal c false y t.1 u.1 u.2.1 0).bind fun k =>
    if (u.2.1 - k == 0) = true then some (t.1, (t.2.1.setIfInBounds i (u.1, u.2.1 + v.2.1, u.2.2)).eraseIdxIfInBounds (i + 1), t.2.2)
    else t.1[u.1 + k + (u.2.1 - k) - 1]?.bind fun x => (gal c true x t.1 v.1 v.2.1 (v.2.1 - 1)).bind fun nb =>
      if (nb == 0) = true then some (t.1, (t.2.1.setIfInBounds i (u.1, u.2.1 + v.2.1, u.2.2)).eraseIdxIfInBounds (i + 1), t.2.2)
      else if u.2.1 - k ≤ nb then (mLo c (t.1.extract (u.1 + k) v.1) (t.1.extract v.1 (v.1 + nb)) t.2.2).bind fun r => some (lay t.1 (u.1 + k) r.1, (t.2.1.setIfInBounds i (u.1, u.2.1 + v.2.1, u.2.2)).eraseIdxIfInBounds (i + 1), r.2)
      else (mHi c (t.1.extract (u.1 + k) v.1) (t.1.extract v.1 (v.1 + nb)) t.2.2).bind fun r => some (lay t.1 (u.1 + k) r.1, (t.2.1.setIfInBounds i (u.1, u.2.1 + v.2.1, u.2.2)).eraseIdxIfInBounds (i + 1), r.2)
theorem wpS_set {M : Model} {σ : Type} {x : σ} {Q : PUnit → σ → Prop} {st : σ} (h : Q ⟨⟩ x) : wpS M A E s (set x : StateT σ Sem PUnit) Q st := by
  unfold wpS
  show wpAny M A (pure ((), x)) _ E s
  exact wpAny_pure ⟨rfl, h⟩
set_option maxHeartbeats 2000000 in
theorem told_mAt (hc : Told kd prog w A s item c) {i : Nat} {t t' : Ts} (h : mAt c i t = some t') {Q : Bool → SortSt → Prop} (hq : Q true (sst kd item t'.1 t'.2.1 t'.2.2)) : wpS (model prog w) A E s (mergeAt' i) Q (sst kd item t.1 t.2.1 t.2.2) := by
  walk_at "bare"
  dsimp only
  refine wpS_bind (wpS_get ?_)
  unfold mAt at h
  obtain ⟨⟨sa, na, pw⟩, hu, h⟩ := Option.bind_eq_some_iff.mp h
  obtain ⟨⟨sb, nb, pw2⟩, hv, h⟩ := Option.bind_eq_some_iff.mp h
  obtain ⟨y, hy, h⟩ := Option.bind_eq_some_iff.mp h
  obtain ⟨k, hk, h⟩ := Option.bind_eq_some_iff.mp h
  dsimp only at *
  rw [hu, hv]
  dsimp only
  refine wpS_bind (wpS_set ?_)
  refine wpS_bind (told_elem hy ?_)
  refine wpS_bind (told_gal hc rfl hk ?_)
  dsimp only
  by_cases e1 : (na - k == 0) = true
  · rw [if_pos e1] at h ⊢
    cases h
    exact wpS_pure hq
  rw [if_neg e1] at h ⊢
  obtain ⟨x, hx, h⟩ := Option.bind_eq_some_iff.mp h
  obtain ⟨nb2, hk2, h⟩ := Option.bind_eq_some_iff.mp h
  refine wpS_bind (told_elem hx ?_)
  refine wpS_bind (told_gal hc rfl hk2 ?_)
  dsimp only
  by_cases e2 : (nb2 == 0) = true
  · rw [if_pos e2] at h ⊢
    cases h
    exact wpS_pure hq
  rw [if_neg e2] at h ⊢
  have x1 : (t.1.map item).extract (sa + k) sb = (t.1.extract (sa + k) sb).map item := by simp
  have x2 : (t.1.map item).extract sb (sb + nb2) = (t.1.extract sb (sb + nb2)).map item := by simp
  rw [x1, x2]
  by_cases e3 : na - k ≤ nb2
  · rw [if_pos e3] at h ⊢
    obtain ⟨r, hr, h⟩ := Option.bind_eq_some_iff.mp h
    cases h
    refine wpS_bind (told_mLo hc rfl hr ?_)
    refine wpS_bind (wpS_modify ?_)
    refine wpS_bind (wpS_get (wpS_pure ?_))
    dsimp only
    rw [lay_map]
    exact hq
  · rw [if_neg e3] at h ⊢
    obtain ⟨r, hr, h⟩ := Option.bind_eq_some_iff.mp h
    cases h
    refine wpS_bind (told_mHi hc rfl hr ?_)
    refine wpS_bind (wpS_modify ?_)
    refine wpS_bind (wpS_get (wpS_pure ?_))
    dsimp only
    rw [lay_map]
    exact hq
end
end L2
namespace L2
open PySem PyProof.Rows
section
variable {prog : Program} {w : World} {A : Around} {E : Value → Shared → Prop} {s : Shared} {item : Nat → Keyed} {c : Nat → Nat → Option Bool} {kd : SortKind}
def sCol (c : Nat → Nat → Option Bool) (pw : Nat) (t : Ts) : Option (Bool × Ts) :=
  match (if t.2.1.size > 1 then t.2.1[t.2.1.size - 2]? else none) with
  | some u => if u.2.2 ≤ pw then some (true, t) else (mAt c (t.2.1.size - 2) t).bind fun t' => some (false, t')
  | none => some (true, t)
def sPush (c : Nat → Nat → Option Bool) (size lo n : Nat) (t : Ts) : Option (Bool × Nat × Ts) :=
  match t.2.1.back? with
  | some u => (iter (sCol c (power' size (2 * u.1 + u.2.1) (2 * u.1 + u.2.1 + u.2.1 + n) size)) size t).bind fun t' =>
    some (false, lo + n, t'.1, (t'.2.1.modify (t'.2.1.size - 1) fun x => (x.1, x.2.1, power' size (2 * u.1 + u.2.1) (2 * u.1 + u.2.1 + u.2.1 + n) size)).push (lo, n, 0), t'.2.2)
  | none => some (false, lo + n, t.1, t.2.1.push (lo, n, 0), t.2.2)
def sRun (c : Nat → Nat → Option Bool) (size : Nat) (g : Nat × Ts) : Option (Bool × Nat × Ts) :=
  if g.1 ≥ size then some (true, g) else (cRun c g.1 (size - g.1) g.2.1).bind fun r =>
    if r.1 < minRun' size size 0 then (bSort c g.1 (min (size - g.1) (minRun' size size 0)) r.1 r.2).bind fun p2 => sPush c size g.1 (min (size - g.1) (minRun' size size 0)) (p2, g.2.2)
    else sPush c size g.1 r.1 (r.2, g.2.2)
def sEnd (c : Nat → Nat → Option Bool) (t : Ts) : Option (Bool × Ts) :=
  if t.2.1.size ≤ 1 then some (true, t)
  else (mAt c (if Option.any (fun x => decide (x < t.2.1[t.2.1.size - 2 + 1]?.elim 0 fun x => x.2.1)) (if t.2.1.size - 2 > 0 then Option.map (fun x => x.2.1) t.2.1[t.2.1.size - 2 - 1]? else none) = true then t.2.1.size - 2 - 1 else t.2.1.size - 2) t).bind fun t' => some (false, t')
def sAll (c : Nat → Nat → Option Bool) (n : Nat) : Option (Array Nat) :=
  (iter (sRun c n) n (0, List.toArray (List.range n), #[], 7)).bind fun g => (iter (sEnd c) n g.2).map (·.1)
set_option maxHeartbeats 2000000 in
theorem told_sort (hc : Told kd prog w A s item c) {n : Nat} {p : Array Nat} (h : sAll c n = some p) {Q : Unit → SortSt → Prop} (hq : ∀ pd g, Q () (sst kd item p pd g)) : wpS (model prog w) A E s sortRuns' Q (sst kd item (List.toArray (List.range n)) #[] 7) := by
  rw [sortRuns'_eq]
  try dsimp only
  refine wpS_bind (wpS_get ?_)
  have hz : (arrOf (sst kd item (List.toArray (List.range n)) #[] 7)).size = n := by
    show ((List.toArray (List.range n)).map item).size = n
    simp
  rw [hz]
  unfold sAll at h
  obtain ⟨g, h1, h⟩ := Option.bind_eq_some_iff.mp h
  obtain ⟨t, h2, rfl⟩ := Option.map_eq_some_iff.mp h
  refine wpS_bind (wpS_iter (γ := Nat × Ts) (step := sRun c n) (fun g => (none, g.1)) (fun g => sst kd item g.2.1 g.2.2.1 g.2.2.2) (fun x g r hs R hR => ?_) (a := 0) (b := n) (g := (0, List.toArray (List.range n), #[], 7)) h1 ?_)
  · unfold sRun at hs
    try dsimp only
    by_cases e1 : g.1 ≥ n
    · rw [if_pos e1] at hs ⊢
      cases hs
      exact wpS_pure hR
    rw [if_neg e1] at hs ⊢
    obtain ⟨k, hk, hs⟩ := Option.bind_eq_some_iff.mp hs
    refine wpS_bind (told_run hc hk ?_)
    try dsimp only
    by_cases e2 : k.1 < minRun' n n 0
    · rw [if_pos e2] at hs ⊢
      obtain ⟨p2, hp, hs⟩ := Option.bind_eq_some_iff.mp hs
      refine wpS_bind (wpS_lift (wpAny_rule ⟨rfl, ?_⟩))
      refine wpS_bind (told_bin hc hp ?_)
      simp only [Bool.not_true, Bool.false_eq_true, if_false]
      walk_at "tw_push"
    · rw [if_neg e2] at hs ⊢
      walk_at "tw_push"
  · try dsimp only
    refine wpS_bind (wpS_iter (γ := Ts) (step := sEnd c) (fun _ => (none, ())) (fun t => sst kd item t.1 t.2.1 t.2.2) (fun x t r hs R hR => ?_) (a := 0) (b := n) (g := g.2) h2 (wpS_pure (hq _ _)))
    unfold sEnd at hs
    refine wpS_bind (wpS_get ?_)
    try dsimp only
    by_cases e1 : t.2.1.size ≤ 1
    · rw [if_pos e1] at hs ⊢
      cases hs
      exact wpS_pure hR
    rw [if_neg e1] at hs ⊢
    obtain ⟨t', hm, hs⟩ := Option.bind_eq_some_iff.mp hs
    cases hs
    exact wpS_bind (told_mAt hc hm (wpS_pure hR))
end
end L2
/-! ### sorted(xs) of a list of lists, where each question is told -/
namespace L2
open PySem PySem.Spec PyProof.Rows PySem.W
section
variable {prog : Program} {w : World} {A : Around} {E : Value → Shared → Prop} {s : Shared}
theorem sort_told {kd : SortKind} {a : Addr} {vs : List Value} {n : Nat} {c : Nat → Nat → Option Bool} {p : Array Nat} {P : PySem.Fin → Shared → Prop} (ho : s.heap.get? a = some (seqObj "list" vs.toArray n)) (h2 : 2 ≤ vs.length) (hL : vs.length ≤ 1000) (hp : p.size ≤ 1000)
    (hkd : ∀ (R : SortKind → Shared → Prop), R kd { s with heap := sortIn s.heap a vs } → wpAny (model prog w) A (keyKind' vs.toArray) R E { s with heap := sortIn s.heap a vs }) (hc : Told kd prog w A { s with heap := sortIn s.heap a vs } (valAt vs) c) (hs : sAll c vs.length = some p)
    (h : P (.done (.ret .none)) { s with heap := sortedHeap s.heap a vs (p.map fun i => vs.getD i .none) }) : wpAny (model prog w) A (Builtin.«list.sort» ⟨[.ref a], []⟩) P E s := by
  rw [list_sort_plain]
  have ha : a < s.heap.objs.size := Heap.lt_size ho
  refine wpAny_bind (listItems_at ho rfl ?_)
  refine wpAny_bind (listUpdate_at ho rfl ?_ (by rw [List.size_toArray, sizeLine_eq]; omega) (Nat.zero_le _))
  obtain ⟨e1, ho1⟩ : ∃ e1, (s.heap.update a (Obj.mapSeq fun _ => (#[] : Array Value))).get? a = some (seqObj "list" #[] e1) := ⟨_, get?_update_seq ho (fun _ => #[])⟩
  refine wpAny_bind (seqEpoch_at ho1 rfl ?_)
  refine wpAny_bind (wpAny_newTuple ?_ (by show vs.length ≤ _; rw [sizeLine_eq]; omega))
  refine wpAny_bind (wpAny_newList ?_ (Nat.zero_le _))
  refine wpAny_holding ?_
  have ho6 : (sortIn s.heap a vs).get? a = some (seqObj "list" #[] e1) := by
    rw [Heap.get?_push_ne _ _ _ (by rw [size_push', Heap.size_update]; exact Nat.ne_of_lt (Nat.lt_succ_of_lt ha)), Heap.get?_push_ne _ _ _ (by rw [Heap.size_update]; exact Nat.ne_of_lt ha)]
    exact ho1
  show wpAny (model prog w) A _ P E { s with heap := sortIn s.heap a vs }
  dsimp only
  have hn2 : ¬ vs.toArray.size < 2 := by rw [List.size_toArray]; omega
  rw [if_neg hn2, if_neg hn2]
  refine wpAny_bind (hkd _ ?_)
  have run := told_sort (E := E) hc hs (Q := fun _ st' => arrOf st' = p.map (valAt vs) ∧ failedOf st' = none) fun pd g => ⟨rfl, rfl⟩
  have est : sst kd (valAt vs) (List.toArray (List.range vs.length)) #[] 7 = SortSt.mk' kd (vs.toArray.zip vs.toArray) #[] 7 none := by
    show SortSt.mk' kd ((List.toArray (List.range vs.length)).map (valAt vs)) #[] 7 none = _
    rw [valAt_range]
  rw [est] at run
  refine wpAny_bind (wpAny_mono run ?_ fun _ _ e => e)
  rintro ⟨⟨⟩, st'⟩ s' ⟨rfl, har, hf⟩
  dsimp only at har hf ⊢
  have eo : (arrOf st').map (·.2) = p.map fun i => vs.getD i .none := by
    rw [har, Array.map_map]
    rfl
  rw [eo]
  refine wpAny_bind (seqEpoch_at ho6 rfl ?_)
  refine wpAny_bind (listUpdate_at ho6 rfl ?_ (Nat.zero_le _) (by rw [Array.size_map, sizeLine_eq]; omega))
  rw [hf]
  simp only [bne_self_eq_false, Bool.false_eq_true, if_false]
  exact wpAny_pure h
theorem sorted_told {kd : SortKind} {l : Addr} {vs : List Value} {c : Nat → Nat → Option Bool} {p : Array Nat} {Q : Value → Shared → Prop} (hl : s.heap.IsList l vs.toArray) (h2 : 2 ≤ vs.length) (hL : vs.length ≤ 1000) (hp : p.size ≤ 1000)
    (hkd : ∀ (R : SortKind → Shared → Prop) (E : Value → Shared → Prop), R kd { s with heap := sortedIn s.heap vs } → wpAny (model prog w) A.in1.in1 (keyKind' vs.toArray) R E { s with heap := sortedIn s.heap vs }) (hc : Told kd prog w A.in1.in1 { s with heap := sortedIn s.heap vs } (valAt vs) c) (hs : sAll c vs.length = some p)
    (h : Q (.ref (s.heap.objs.size + 1)) { s with heap := sortedAll s.heap vs (p.map fun i => vs.getD i .none) }) : wpAny (model prog w) A (call (.builtin "sorted") [.ref l]) Q E s := by
  refine Calls.call_function_entry kind_sorted plain_sorted entry_sorted (args_sorted1 _) ?_
  unfold Builtin.«sorted»
  refine wpAny_bind (m := checkCount "sorted" 1 1 _) (wpAny_pure ?_)
  refine wpAny_bind (collect_list hl ?_ (by rw [sizeLine_eq]; omega))
  refine wpAny_bind (wpAny_newList ?_ (by rw [sizeLine_eq]; omega))
  have hsz : ((s.heap.push (seqObj "list" #[] 0)).update s.heap.objs.size (Obj.mapSeq (· ++ vs.toArray))).objs.size = s.heap.objs.size + 1 := by
    rw [Heap.size_update, size_push']
  have hoL : (((s.heap.push (seqObj "list" #[] 0)).update s.heap.objs.size (Obj.mapSeq (· ++ vs.toArray))).push (seqObj "list" vs.toArray 0)).get? (s.heap.objs.size + 1) = some (seqObj "list" vs.toArray 0) := by
    rw [← hsz]; exact Heap.get?_push_size _ rfl
  show wpAny _ _ _ _ _ { s with heap := ((s.heap.push (seqObj "list" #[] 0)).update s.heap.objs.size (Obj.mapSeq (· ++ vs.toArray))).push (seqObj "list" vs.toArray 0) }
  rw [hsz]
  refine wpAny_bind (wpAny_holding (wpAny_call_entry slot_list_sort ⟨_, hoL, rfl⟩ entry_list_sort (sort_told (s := { s with heap := ((s.heap.push (seqObj "list" #[] 0)).update s.heap.objs.size (Obj.mapSeq (· ++ vs.toArray))).push (seqObj "list" vs.toArray 0) }) hoL h2 hL hp (fun R => hkd R _) hc hs ⟨_, rfl, ?_⟩) (args_list_sort _)))
  exact wpAny_pure ⟨_, rfl, h⟩
end
def rSorted (K : PySem.W.Frag) : List V → Hp → VK → Prop := fun vs H Q => ∃ (l : Addr) (rs : List V) (c : Nat → Nat → Option Bool) (p : Array Nat), vs = [.ref l] ∧ SqL K H l rs ∧ 2 ≤ rs.length ∧ rs.length ≤ 1000 ∧ p.size ≤ 1000 ∧ (∀ r ∈ rs, ∃ a ys, r = .ref a ∧ SqL K H a ys) ∧
  (∀ i j b, c i j = some b → ∃ x y, rs[i]? = some x ∧ rs[j]? = some y ∧ Ask K H x y b) ∧ sAll c rs.length = some p ∧ (∀ i ∈ p.toList, i < rs.length) ∧ ∀ q, H q = none → Q (.ref q) (upd H q (.lst (p.toList.map fun i => rs.getD i .non)))
section
variable {X : Cx}
theorem call_sortedL {k : Nat} (hr : Room k X.A) : CallR X (.builtin "sorted") (rSorted X.K) := by
  intro pins s σ H xs us Q I r h
  obtain ⟨l, rs, c, p, rfl, hq, h2, hL, hps, hty, hask, hs, hpl, q⟩ := h
  obtain ⟨u, rfl, rx⟩ := vals1 r
  cases rx
  obtain ⟨its, r', pl, hz⟩ := I.list hq
  have ln := r'.length
  have hu := hr.un
  have I2 : Inv X pins σ H { s with heap := sortedIn s.heap its } := I.kept (t' := s.toks) fun b o e => sortedIn_old e
  refine sorted_told (kd := oneType') (vs := its) (c := c) (p := p) pl.isList (by omega) (by omega) hps (fun R E hR => kas_kind (T := .type "list") (by omega) (fun v hv => ?_) rfl rfl hR) (fun i j b hb Q' hq' => ?_) (by rw [← ln]; exact hs) ?_
  · obtain ⟨i, hi, rfl⟩ := List.mem_iff_getElem.mp hv
    have hi' : i < rs.length := by omega
    obtain ⟨a, ys, e1, hy⟩ := hty rs[i] (List.getElem_mem hi')
    obtain ⟨u, hu1, ru⟩ := r'.get (List.getElem?_eq_getElem hi')
    rw [List.getElem?_eq_getElem hi] at hu1
    rw [e1] at ru
    obtain rfl : u = Value.ref a := ru
    rw [Option.some.inj hu1]
    obtain ⟨js, r2, p2, z2⟩ := I2.list hy
    obtain ⟨o, ho, hc, _⟩ := p2.isList
    exact hc ▸ (Looks.ld ho).andThen .now
  · obtain ⟨x, y, hx, hy, a1, a2, xs, ys, d, es, fs, rfl, rfl, h1, h2, hd, he, hf, rfl⟩ := hask i j b hb
    obtain ⟨u, hu1, ru⟩ := r'.get hx
    obtain ⟨v, hv1, rv⟩ := r'.get hy
    obtain rfl : u = Value.ref a1 := ru
    obtain rfl : v = Value.ref a2 := rv
    have g1 : (valAt its i).1 = .ref a1 := by show its.getD i .none = _; rw [List.getD, hu1]; rfl
    have g2 : (valAt its j).1 = .ref a2 := by show its.getD j .none = _; rw [List.getD, hv1]; rfl
    rw [g1, g2]
    exact LtR.key I2 h1 h2 he hf (by rw [units_in1, units_in1]; omega) hq'
  · obtain ⟨e, he⟩ := sortedAll_at s.heap its (p.map fun i => its.getD i .none)
    have en : (p.map fun i => its.getD i .none) = List.toArray (p.toList.map fun i => its.getD i .none) := by
      apply Array.toList_inj.mp
      simp
    rw [en] at he ⊢
    refine ⟨.ref (s.heap.objs.size + 1), _, I.laid (t' := s.toks) (fun _ _ => sortedAll_old) (Nat.le_succ _) (show ObjOk X.prog X.w _ _ _ (.lst (p.toList.map fun i => rs.getD i .non)) from ⟨?_, _, e, vals_getD r' p.toList hpl, he⟩), rfl, q _ (I.hok.fresh (Nat.le_succ _))⟩
    rw [List.length_map, Array.length_toList, sizeLine_eq]
    omega
end
section
variable {X : Cx}
/-- sorted, of any list of lists that the walk is told of -/
def rSortedA (K : PySem.W.Frag) : List V → Hp → VK → Prop := fun vs H Q => (∃ (l : Addr) (rs : List V), vs = [.ref l] ∧ SqL K H l rs ∧ rs.length < 2 ∧ ∀ q, H q = none → Q (.ref q) (upd H q (.lst rs))) ∨ rSorted K vs H Q
theorem call_sortedA {k : Nat} (hr : Room k X.A) : CallR X (.builtin "sorted") (rSortedA X.K) := by
  intro pins s σ H xs us Q I r h
  rcases h with h | h
  · obtain ⟨l, rs, rfl, hq, h2, q⟩ := h
    obtain ⟨u, rfl, rx⟩ := vals1 r
    cases rx
    obtain ⟨its, r', pl, hz⟩ := I.list hq
    have ln := r'.length
    refine sorted_few (vs := its) pl.isList (by omega) ?_
    obtain ⟨e, he⟩ := sortedAll_at s.heap its its.toArray
    exact ⟨.ref (s.heap.objs.size + 1), _, I.laid (t' := s.toks) (fun _ _ => sortedAll_old) (Nat.le_succ _) (show ObjOk X.prog X.w _ _ _ (.lst rs) from ⟨hz, its, e, r', he⟩), rfl, q _ (I.hok.fresh (Nat.le_succ _))⟩
  · exact call_sortedL hr pins s σ H xs us Q I r h
end
end L2
/-! ### a comprehension over a tuple; isinstance in one -/
namespace L2
open PySem PySem.Spec PyProof.Rows
section
variable {X : Cx} {K : PySem.W.Frag}
theorem op_eqSK {k : Nat} (h : X.K = K) (hr : Room k X.A) : OpR X (compareOp .Eq) (rEqS K false) := h ▸ op_eqS hr
end
end L2
/-! ### t[lo:hi] of a tuple, the whole of it too -/
namespace HT
open PySem PySem.Spec PyProof.Rows
section
variable {prog : Program} {w : World} {A : Around} {E : Value → Shared → Prop} {s : Shared}
end
end HT
namespace L2
open PySem PySem.Spec PyProof.Rows
section
variable {X : Cx}
end
end L2
/-! ### dicts keyed by tuples: a display of one pair, the walk over the keys, the sum of the values -/
namespace L2
open PySem PySem.Spec PyProof.Rows PySem.W
section
variable {prog : Program} {w : World} {A : Around} {E : Value → Shared → Prop} {s : Shared}
theorem dit_iter {d : Addr} {o : Obj} {es : Array DictEntry} {ep : Nat} {Q : Value → Shared → Prop} (hd : (d == sysModules) = false) (ho : s.heap.get? d = some o) (hc : o.ExactDict) (hdat : o.data = .dict es ep)
    (hQ : Q (.ref s.heap.objs.size) { s with heap := s.heap.push { cls := .type "dict_keyiterator", data := .fields #[.ref d, .int 0 0, .int es.size 0, .int ep 0] } }) :
    wpAny (model prog w) A (pyIter (.ref d)) Q E s := by
  have hT : s.TypeIs (.ref d) "dict" := ⟨o, ho, hc.1⟩
  refine wpAny_pyIter_slot hT PySem.F.slot_dict_iter (wpAny_call_entry PySem.F.slot_dict_iter hT PySem.F.entry_dict_iter ?_ (PySem.F.args_dict_iter_1 _)); unfold Builtin.«dict.__iter__»
  refine wpAny_bind ?_; unfold Builtin.Dict.dictSlotNone
  refine wpAny_bind (wpAny_notOrdered_dict hT ?_); show wpAny _ _ (pure (Value.ref d)) _ _ s
  refine wpAny_pure ?_; show wpAny _ _ (Builtin.Dict.showsAll d >>= _) _ _ s
  unfold Builtin.Dict.showsAll; rw [if_neg (by rw [hd]; exact Bool.false_ne_true)]
  refine wpAny_bind (wpAny_pure ?_); refine wpAny_bind (wpAny_dictEntries ho hdat ?_); refine wpAny_bind (wpAny_dictEpoch ho hdat ?_)
  refine wpAny_bind (wpAny_newObj_type (wpAny_pure ⟨_, rfl, "dict_keyiterator", _, ⟨_, Heap.get?_push_size _ rfl, rfl⟩, PySem.F.slot_dict_keyiterator_next.lookup, ?_⟩)); simpa [rawInt] using hQ
theorem dit_item {it d : Addr} {o : Obj} {es : Array DictEntry} {i ep : Nat} {e : DictEntry} {Q : Option Value → Shared → Prop} (hit : s.heap.IsKeyIter it d i es.size ep) (hod : s.heap.get? d = some o) (hdd : o.data = .dict es ep) (he : es[i]? = some e)
    (hQ : ∀ h', h'.IsKeyIter it d (i + 1) es.size ep → Heap.SameBut it s.heap h' → Q (some e.key) { s with heap := h' }) : wpAny (model prog w) A (pyNext (.ref it)) Q E s := by
  obtain ⟨oi, ho, hc, hd⟩ := id hit
  have hlt : i < es.size := (Array.getElem?_eq_some_iff.mp he).1
  unfold pyNext; refine wpAny_bind (wpAny_attempt (wpAny_callSpecial?_slot (name := Str.ofString "__next__") hit.typeIs PySem.F.slot_dict_keyiterator_next (wpAny_call_entry PySem.F.slot_dict_keyiterator_next hit.typeIs PySem.F.entry_dict_keyiterator_next ?_ (PySem.F.args_dict_keyiterator_next_1 _))))
  refine wpAny_bind (wpAny_pure ?_); refine wpAny_bind ?_; refine wpAny_bind ?_
  first | refine wpAny_bind (wpAny_typeNameOfWhole_keyiter hit.typeIs (wpAny_pure ?_)); skip | refine wpAny_bind (wpAny_typeNameOf_keyiter hit.typeIs (wpAny_pure ?_)); skip
  refine wpAny_bind (wpAny_fieldsOf ho hd ?_); have hown : Builtin.Dict_items.ownsTuple "dict_keyiterator" = false := by decide
  simp only [hown, Bool.false_eq_true, if_false]; show wpAny _ _ (if (Value.ref d == Value.none) = true then _ else _) _ _ s
  rw [if_neg (show ¬ ((Value.ref d == Value.none) = true) from Bool.false_ne_true)]; refine wpAny_bind (wpAny_pure ?_)
  refine wpAny_bind (wpAny_dictEntries hod hdd ?_); rw [if_neg (by simp)]
  refine wpAny_bind (wpAny_pure ?_); refine wpAny_bind (wpAny_dictEpoch hod hdd ?_); rw [if_neg (by simp)]; refine wpAny_pure ?_
  simp only [show ¬ ((i : Int) < 0) from by omega, if_false, Int.toNat_natCast, he]; refine wpAny_bind ?_
  first | refine wpAny_bind (wpAny_typeNameOfWhole_keyiter hit.typeIs (wpAny_pure ?_)); skip | refine wpAny_bind (wpAny_typeNameOf_keyiter hit.typeIs (wpAny_pure ?_)); skip
  refine wpAny_bind (wpAny_isOneOf_keyiter hit.typeIs ?_); show wpAny _ _ (setField (.ref it) 1 (rawInt ((i : Int) + 1)) >>= _) _ _ s
  refine wpAny_bind (wpAny_setField ho hd (by simp) ?_)
  have st' : (s.heap.update it (Obj.mapFields (·.setIfInBounds 1 (rawInt ((i : Int) + 1))))).IsKeyIter it d (i + 1) es.size ep := ⟨_, Heap.get?_update_self _ ho (Obj.isFreed_of_fields (Obj.data_mapFields hd _)), (Obj.cls_mapFields ..).trans hc, by rw [Obj.data_mapFields hd]; simp [rawInt]⟩
  refine wpAny_bind (wpAny_holding ?_); refine wpAny_bind (wpAny_isOneOf_keyiter (s := { s with heap := s.heap.update it (Obj.mapFields (·.setIfInBounds 1 (rawInt ((i : Int) + 1)))) }) st'.typeIs ?_)
  show wpAny _ _ (pure e.key) _ _ _; exact wpAny_pure (wpAny_pure ⟨_, rfl, wpAny_pure (hQ _ st' (Heap.SameBut.update ..))⟩)
theorem dit_end {it d : Addr} {o : Obj} {es : Array DictEntry} {i ep : Nat} {Q : Option Value → Shared → Prop} (hh : A.handled = none) (hit : s.heap.IsKeyIter it d i es.size ep) (hod : s.heap.get? d = some o) (hdd : o.data = .dict es ep) (he : es.size ≤ i)
    (hQ : ∀ h', Heap.ExtBut it s.heap h' → Q none { s with heap := h' }) : wpAny (model prog w) A (pyNext (.ref it)) Q E s := by
  obtain ⟨oi, ho, hc, hd⟩ := id hit
  unfold pyNext; refine wpAny_bind (wpAny_attempt (wpAny_callSpecial?_slot (name := Str.ofString "__next__") hit.typeIs PySem.F.slot_dict_keyiterator_next (wpAny_call_entry PySem.F.slot_dict_keyiterator_next hit.typeIs PySem.F.entry_dict_keyiterator_next ?_ (PySem.F.args_dict_keyiterator_next_1 _))))
  refine wpAny_bind (wpAny_pure ?_); refine wpAny_bind ?_; refine wpAny_bind ?_
  first | refine wpAny_bind (wpAny_typeNameOfWhole_keyiter hit.typeIs (wpAny_pure ?_)); skip | refine wpAny_bind (wpAny_typeNameOf_keyiter hit.typeIs (wpAny_pure ?_)); skip
  refine wpAny_bind (wpAny_fieldsOf ho hd ?_); have hown : Builtin.Dict_items.ownsTuple "dict_keyiterator" = false := by decide
  simp only [hown, Bool.false_eq_true, if_false]; show wpAny _ _ (if (Value.ref d == Value.none) = true then _ else _) _ _ s
  rw [if_neg (show ¬ ((Value.ref d == Value.none) = true) from Bool.false_ne_true)]; refine wpAny_bind (wpAny_pure ?_)
  refine wpAny_bind (wpAny_dictEntries hod hdd ?_); rw [if_neg (by simp)]
  refine wpAny_bind (wpAny_pure ?_); refine wpAny_bind (wpAny_dictEpoch hod hdd ?_); rw [if_neg (by simp)]; refine wpAny_pure ?_
  simp only [show ¬ ((i : Int) < 0) from by omega, if_false, Int.toNat_natCast, Array.getElem?_eq_none he]; refine wpAny_bind ?_
  first | refine wpAny_bind (wpAny_typeNameOfWhole_keyiter hit.typeIs (wpAny_pure ?_)); skip | refine wpAny_bind (wpAny_typeNameOf_keyiter hit.typeIs (wpAny_pure ?_)); skip
  show wpAny _ _ (setField (.ref it) 0 .none >>= _) _ _ s; refine wpAny_bind (wpAny_setField ho hd (by simp) ?_)
  show wpAny _ _ (newExc (.type "StopIteration") [] >>= _) _ _ _; refine wpAny_bind ?_; simp only [newExc, newTuple]
  refine wpAny_bind (wpAny_newObj_type ?_ (by size_fits)); refine wpAny_bind (m := firstArgMember _ _) (wpAny_of_eq (a := Value.none) (by first | rfl | (simp only [firstArgMember]; rfl)) ?_)
  refine wpAny_newObj_type ?_ (by size_fits); simp only [raiseNew]; refine wpAny_bind (wpAny_handled ?_); rw [show A.in1.handled = none from hh]
  refine wpAny_bind (wpAny_pure (wpAny_throw ?_)); refine wpAny_bind (wpAny_isInstance (T := "StopIteration") (b := true) ⟨_, Heap.get?_push_size _ rfl, rfl⟩ isSubtype_stop ?_)
  exact wpAny_pure (hQ _ (((Heap.SameBut.update ..).extBut.push _).push _))
end
section
variable {prog : Program} {w : World} {A : Around} {E : Value → Shared → Prop} {s : Shared}
end
section
variable {X : Cx} {tg : Expr}
/-- list(range(n)) -/
def tListRng1 (ta : TA) : TE := fun σ H Q => ta σ H fun vs H1 => ∃ j : Int, vs = [.int j] ∧ (-(2 ^ 62) ≤ j ∧ j < 2 ^ 62) ∧ j.toNat ≤ 1000 ∧ ∀ l, H1 l = none → Q (.ref l) (upd H1 l (.lst (rngL 0 j.toNat)))
theorem pe_listrng1 {a : Expr} {ta : TA} {p1 p2 p3 pos : Pos} (hc : X.calm = true) (hg1 : Gl X "list") (hm1 : X.mg "list" = none) (hg2 : Gl X "range") (hm2 : X.mg "range" = none) (ha : PA X [a] ta)
    (he1 : starEach [.Call (.Name "range" p2) [a] [] p3] X.env = [(false, eval (.Call (.Name "range" p2) [a] [] p3) X.env)] := by rfl) (hs : starEach [a] X.env = [(false, eval a X.env)] := by rfl) :
    PE X (.Call (.Name "list" p1) [.Call (.Name "range" p2) [a] [] p3] [] pos) (tListRng1 ta) := by
  intro pins s σ H Q I h
  refine wpAny_Call_Name_kw (ld_blt I hg1 hm1 boot_list ?_)
  refine PyProof.Rows.callWith_type1 ?_ he1 (by rfl)
  rw [he1]
  show wpAny _ _ (spliced [(false, eval (.Call (.Name "range" p2) [a] [] p3) X.env)]) _ _ s
  refine Calls.spliced_cons ?_
  refine Call_ (ld_blt I hg2 hm2 boot_range (PyProof.Rows.callWith_type1 (thn (ha p3 pins s σ H _ I h) fun us s1 ⟨vs, H1, I1, r1, q1⟩ => ?_) (by rw [hs]; rfl) (by rfl)))
  obtain ⟨j, e, ⟨q3, q4⟩, hn, q⟩ := q1
  subst e
  obtain ⟨u, rfl, t', rfl⟩ := vals1 r1
  refine call_range_1 ?_
  refine Calls.spliced_nil ?_
  refine call_list_range (n := j.toNat) (I1.ok.hd hc) (IsRange.new ..) (small_one (by decide) (by decide) q3 q4) (by rw [rangeSize_one]; split <;> omega) (by omega) fun h' tk acc' c' hk hS hacc => ?_
  have ne : ∀ b o, s1.heap.get? b = some o → h'.get? b = some o := fun b o z => hk b o (Heap.get?_push_of_some _ z)
  obtain ⟨z1, z2⟩ := hacc
  have vv : Vals (rngL 0 j.toNat) acc'.toList := by
    unfold rngL
    rw [List.range_eq_range']
    exact vals_rng j.toNat acc'.toList 0 (by simpa using z1) fun k v e => by
      obtain ⟨t, e2⟩ := z2 k v (by simpa using e)
      exact ⟨t, by rw [e2]; simp⟩
  have le : s1.heap.objs.size ≤ (s1.heap.push { cls := .type "range", data := .fields #[.int 0 s1.toks, .int j t', .int 1 (s1.toks + 1)] }).objs.size := by rw [Heap.size_push]; exact Nat.le_succ _
  exact ⟨.ref _, _, I1.laid (t' := tk) ne (by rw [Heap.size_push]; exact Nat.le_succ _) (show ObjOk X.prog X.w _ h' _ (.lst (rngL 0 j.toNat)) from ⟨by unfold rngL; rw [List.length_map, List.length_range, sizeLine_eq]; omega, acc'.toList, c', vv, hS⟩), rfl, q _ (I1.hok.fresh (by rw [Heap.size_push]; exact Nat.le_succ _))⟩
end
end L2
/-! ### tuples cut and joined, told by contents; what keeps lists and tuples -/
namespace L2
open PySem PySem.Spec PyProof.Rows
section
variable {X : Cx}
end
/-- the lists and the tuples stay -/
def LTS (H H' : Hp) : Prop := (∀ b xs, H b = some (.lst xs) → H' b = some (.lst xs)) ∧ ∀ b xs, H b = some (.tup xs) → H' b = some (.tup xs)
mutual
theorem Is.lts {H H' : Hp} (s : LTS H H') : ∀ {d : D} {v : V}, Is H d v → Is H' d v
  | .i _, _, h => by rw [of_i h]; exact is_i
  | .l xs, _, h => by
    obtain ⟨a, vs, e, q, r⟩ := of_l h
    rw [e]
    exact is_l (s.1 _ _ q) (Iss.lts s r)
  | .t xs, _, h => by
    obtain ⟨a, vs, e, q, r⟩ := of_t h
    rw [e]
    exact is_t (s.2 _ _ q) (Iss.lts s r)
theorem Iss.lts {H H' : Hp} (s : LTS H H') : ∀ {xs : List D} {vs : List V}, Iss H xs vs → Iss H' xs vs
  | [], _, h => by rw [of_nil h]; exact iss_nil
  | x :: xs, _, h => by
    obtain ⟨u, us, e, q, r⟩ := of_cons h
    rw [e]
    exact iss_cons (Is.lts s q) (Iss.lts s r)
end
end L2
/-! ### tuples of tuples as keys of a dict -/
namespace L2
open PySem PySem.Spec PyProof.Rows PySem.W
section
variable {prog : Program} {w : World} {K : Type} [DecidableEq K] {knd : KeyKind prog w K}
inductive ItemsT (knd : KeyKind prog w K) (h : Heap) : List (List K) → List Value → Prop
  | nil : ItemsT knd h [] []
  | cons {k : List K} {a : Addr} {ks : List (List K)} {vs : List Value} : IsTupleKey knd h k a → ItemsT knd h ks vs → ItemsT knd h (k :: ks) (.ref a :: vs)
def IsNest (knd : KeyKind prog w K) (h : Heap) (ks : List (List K)) (a : Addr) : Prop := ∃ o items n, h.get? a = some o ∧ o.cls = .type "tuple" ∧ o.data = .seq items n ∧ ItemsT knd h ks items.toList
theorem ItemsT.inj {h : Heap} {x y : List (List K)} {vs : List Value} (hx : ItemsT knd h x vs) (hy : ItemsT knd h y vs) : x = y := by
  induction hx generalizing y with
  | nil => cases hy; rfl
  | cons h1 _ ih =>
    cases hy with
    | cons h2 t2 => rw [h1.inj h2, ih t2]
theorem ItemsT.keeps {h h' : Heap} {x : List (List K)} {vs : List Value} {d : Addr} {o : Obj} {es ep} (hx : ItemsT knd h x vs) (ho : h.get? d = some o) (hd : o.data = .dict es ep) (hs : Heap.SameBut d h h') : ItemsT knd h' x vs := by
  induction hx with
  | nil => exact .nil
  | cons h1 _ ih => exact .cons (h1.keeps ho hd hs) ih
theorem IsNest.typeIs {s : Shared} {ks : List (List K)} {a : Addr} (x : IsNest knd s.heap ks a) : s.TypeIs (.ref a) "tuple" := let ⟨o, _, _, ho, hc, _⟩ := x; ⟨o, ho, hc⟩
theorem IsNest.inj {h : Heap} {a : Addr} {x y : List (List K)} (hx : IsNest knd h x a) (hy : IsNest knd h y a) : x = y := by
  obtain ⟨o, items, n, ho, _, hd, hi⟩ := hx
  obtain ⟨o', items', n', ho', _, hd', hi'⟩ := hy
  obtain rfl : o = o' := Option.some.inj (ho.symm.trans ho')
  rw [hd] at hd'
  injection hd' with h1 _
  subst h1
  exact hi.inj hi'
theorem IsNest.keeps {h h' : Heap} {ks : List (List K)} {a d : Addr} {o : Obj} {es ep} (x : IsNest knd h ks a) (ho : h.get? d = some o) (hd : o.data = .dict es ep) (hs : Heap.SameBut d h h') : IsNest knd h' ks a := by
  obtain ⟨o', items, n, ho', hc, hd', hi⟩ := x
  have hne : a ≠ d := by
    rintro rfl
    obtain rfl : o' = o := Option.some.inj (ho'.symm.trans ho)
    rw [hd] at hd'; exact nomatch hd'
  exact ⟨o', items, n, (hs.2 a hne).trans ho', hc, hd', hi.keeps ho hd hs⟩
def nestHash (knd : KeyKind prog w K) (ks : List (List K)) : Int := reduceHash (Builtin.Tuple.tupleHashOf (ks.map (tupleKeyHash knd)))
def nestDraws (ks : List (List K)) : Nat := (ks.map fun k => k.length + 1).sum + 1
variable {A : Around} {E : Value → Shared → Prop} {s : Shared}
theorem pyHash_nest {ks : List (List K)} {a : Addr} {Q : Int → Shared → Prop} (hu : A.units + 1 < cLine) (hk : IsNest knd s.heap ks a) (h : Q (nestHash knd ks) { s with toks := s.toks + nestDraws ks }) :
    wpAny (model prog w) A (pyHash (.ref a)) Q E s := by
  have hT := hk.typeIs
  obtain ⟨o, items, n, ho, _, hd, hi⟩ := hk
  unfold pyHash
  first | unfold pyHashByItsType | skip
  first | refine wpAny_bind (wpAny_cRoomFor_or (.inr (by omega)) ?_) | skip
  refine wpAny_bind (wpAny_specialOf hT F.slot_tuple_hash.lookup ?_)
  show wpAny _ _ (if (some (Value.builtin "tuple.__hash__") == some Value.none) = true then _ else _) Q E s
  rw [if_neg (by rw [beq_builtin_none]; exact Bool.false_ne_true)]
  refine wpAny_bind (wpAny_specialOf hT F.slot_tuple_hash.lookup ?_)
  show wpAny _ _ (callSpecialIfBoundUnlessNone? (.ref a) "__hash__" _ >>= _) Q E s
  refine wpAny_bind (wpAny_callSpecialIfBoundUnlessNone?_slot hT F.slot_tuple_hash (wpAny_call_entry F.slot_tuple_hash hT F.entry_tuple_hash ?_ (F.args_tuple_hash_1 _)))
  show wpAny _ _ (Builtin.Tuple.tupleItemsOf (.ref a) >>= _) _ _ s
  refine wpAny_bind (wpAny_tupleItemsOf ho hd ?_)
  refine wpAny_bind ?_
  rw [← Array.forIn_toList]
  refine wpAny_forIn_list _
    (fun rest (b : Array Int) s' => ∃ done left, ks = done ++ left ∧ ItemsT knd s.heap left rest ∧ b.toList = done.map (tupleKeyHash knd) ∧ s' = { s with toks := s.toks + (done.map fun k => k.length + 1).sum })
    _ ?_ ?_ _ _ ⟨[], ks, rfl, hi, rfl, rfl⟩
  · rintro x rest b s' ⟨done, left, rfl, hl, hb, rfl⟩
    cases hl with
    | @cons k a1 ks' _ h1 hl' =>
      refine wpAny_bind (wpAny_pyHash_tuple (knd := knd) (ks := k) (by first | exact hu | (rw [units_in1]; omega) | (simp; omega)) h1 ?_)
      first
        | exact wpAny_pure ⟨done ++ [k], ks', by simp, hl', by simp [hb], by simp [Nat.add_assoc]⟩
        | exact wpAny_bind (wpAny_pure (wpAny_pure ⟨done ++ [k], ks', by simp, hl', by simp [hb], by simp [Nat.add_assoc]⟩))
  · rintro b s' ⟨done, left, rfl, hl, hb, rfl⟩
    cases hl
    rw [List.append_nil] at h
    show wpAny _ _ (retInt (Builtin.Tuple.tupleHashOf b.toList)) _ _ _
    rw [hb]
    refine wpAny_ret_mkInt ?_
    show wpAny _ _ (if (decide (-(2 : Int) ^ 63 ≤ Builtin.Tuple.tupleHashOf (done.map (tupleKeyHash knd))) && decide (Builtin.Tuple.tupleHashOf (done.map (tupleKeyHash knd)) < 2 ^ 63)) = true then _ else _) Q E _
    unfold nestHash reduceHash nestDraws at h
    by_cases hr : (decide (-(2 : Int) ^ 63 ≤ Builtin.Tuple.tupleHashOf (done.map (tupleKeyHash knd))) && decide (Builtin.Tuple.tupleHashOf (done.map (tupleKeyHash knd)) < 2 ^ 63)) = true
    · rw [if_pos hr]
      rw [if_pos hr] at h
      exact wpAny_pure (by simpa [Nat.add_assoc] using h)
    · rw [if_neg hr]
      rw [if_neg hr] at h
      exact wpAny_bind (wpAny_rule (wpAny_pure (by simpa [Nat.add_assoc] using h)))
theorem nest_eq_tree {x y : List (List K)} {a b : Addr} {P : Fin → Shared → Prop} (hu : A.units < cLine) (hx : IsNest knd s.heap x a) (hy : IsNest knd s.heap y b) (h : P (.done (.ret (.bool (decide (x = y))))) s) :
    wpAny (model prog w) A (Builtin.«tuple.__eq__» ⟨[.ref a, .ref b], []⟩) P E s := by
  have hTb := hy.typeIs
  obtain ⟨oa, xs, na, hoa, _, hda, hia⟩ := hx
  obtain ⟨ob, ys, nb, hob, _, hdb, hib⟩ := hy
  show wpAny _ _ (isInstance (.ref b) (.type "tuple") >>= _) _ _ s
  refine wpAny_bind (wpAny_isInstance hTb isSubtype_tuple_tuple ?_)
  simp only [Bool.not_true, Bool.false_eq_true, if_false]
  refine wpAny_bind (wpAny_tupleItemsOf hoa hda ?_)
  refine wpAny_bind (wpAny_tupleItemsOf hob hdb ?_)
  refine wpAny_bind ?_
  refine wpAny_forIn_list _
    (fun rest r s' => r.1 = none ∧ s' = s ∧ ∃ x' y' xs' ys', rest = List.zip xs' ys' ∧ ItemsT knd s.heap x' xs' ∧ ItemsT knd s.heap y' ys' ∧ decide (x' = y') = decide (x = y) ∧ (xs'.length == ys'.length) = (xs.size == ys.size))
    _ ?_ ?_ _ _ ⟨rfl, rfl, x, y, xs.toList, ys.toList, rfl, hia, hib, rfl, by simp⟩
  · rintro ⟨u, v⟩ rest r s' ⟨hr, rfl, x', y', xs', ys', hz, hx', hy', hdec, hlen⟩
    cases hx' with
    | nil => simp at hz
    | @cons k1 a1 x'' xs'' h1 hx'' =>
      cases hy' with
      | nil => simp at hz
      | @cons k2 a2 y'' ys'' h2 hy'' =>
        simp only [List.zip_cons_cons, List.cons.injEq, Prod.mk.injEq] at hz
        obtain ⟨⟨rfl, rfl⟩, rfl⟩ := hz
        refine wpAny_bind (wpAny_eqBool_tuple (knd := knd) (x := k1) (y := k2) (by first | exact hu | (rw [units_in1]; omega) | (simp; omega)) h1 h2 ?_)
        by_cases hk : k1 = k2
        · subst hk
          rw [decide_eq_true rfl]
          simp only [Bool.not_true, Bool.false_eq_true, if_false]
          refine wpAny_pure ⟨rfl, rfl, x'', y'', xs'', ys'', rfl, hx'', hy'', ?_, by simpa using hlen⟩
          rw [← hdec]
          by_cases hxy : x'' = y''
          · simp [hxy]
          · simp [hxy]
        · rw [decide_eq_false hk]
          simp only [Bool.not_false, if_true]
          have hf : decide (x = y) = false := by rw [← hdec]; simp [hk]
          rw [hf] at h
          exact wpAny_bind (wpAny_pure (wpAny_pure (wpAny_pure h)))
  · rintro ⟨r1, r2⟩ s' ⟨hr, rfl, x', y', xs', ys', hz, hx', hy', hdec, hlen⟩
    simp only at hr
    subst hr
    refine wpAny_pure ?_
    have hfin : (xs.size == ys.size) = decide (x = y) := by
      rw [← hdec, ← hlen]
      cases hx' with
      | nil =>
        cases hy' with
        | nil => simp
        | cons _ _ => simp
      | cons _ _ =>
        cases hy' with
        | nil => simp
        | cons _ _ => simp at hz
    show P (.done (.ret (.bool (xs.size == ys.size)))) s'
    rw [hfin]; exact h
theorem eqBool_nest {x y : List (List K)} {a b : Addr} {Q : Bool → Shared → Prop} (hu : A.units + 1 < cLine) (hx : IsNest knd s.heap x a) (hy : IsNest knd s.heap y b) (h : Q (decide (x = y)) s) :
    wpAny (model prog w) A (eqBool (.ref a) (.ref b)) Q E s := by
  unfold eqBool
  try with_reducible refine wpAny_holding ?_
  show wpAny _ _ (if (Value.ref a == Value.ref b) = true then _ else _) Q E s
  by_cases hab : (Value.ref a == Value.ref b) = true
  · rw [if_pos hab]
    have e : a = b := by have := eq_of_beq hab; injection this
    subst e
    obtain rfl := hx.inj hy
    exact wpAny_bind (wpAny_rule (wpAny_pure (by simpa using h)))
  · rw [if_neg hab]
    exact wpAny_bind (wpAny_richCompare_same_room (op := .Eq) hx.typeIs hy.typeIs F.slot_tuple_eq
      (wpAny_call_entry F.slot_tuple_eq hx.typeIs F.entry_tuple_eq (nest_eq_tree (by first | omega | (rw [units_in1]; omega) | (simp; omega)) hx hy ⟨_, rfl, (fun e => nomatch e), wpAny_truthy_bool h⟩) (F.args_tuple_eq_2 _ _)) (by omega))
theorem quiet_tuple {ks : List K} {a : Addr} {n : Nat} {Q : Bool → Shared → Prop} (hk : IsTupleKey knd s.heap ks a) (h : Q true s) : wpAny (model prog w) A (eqIsQuiet (n + 1) (.ref a)) Q E s := by
  have hT := hk.typeIs
  obtain ⟨o, items, n, ho, _, hd, hi⟩ := hk
  unfold eqIsQuiet
  refine wpAny_bind (wpAny_specialOf hT F.slot_tuple_eq.lookup ?_)
  show wpAny _ _ (isInstance (.ref a) (.type "tuple") >>= _) _ _ s
  refine wpAny_bind (wpAny_isInstance hT isSubtype_tuple_tuple ?_)
  simp only [Bool.not_true, Bool.false_eq_true, if_false]
  refine wpAny_bind (wpAny_seqItems ho hd ?_)
  refine wpAny_bind ?_
  show wpAny _ _ (forIn items _ _) _ _ s
  rw [← Array.forIn_toList]
  refine wpAny_forIn_list _ (fun rest r s' => r.1 = none ∧ s' = s ∧ ∀ v ∈ rest, carriedByValue v = true) _ ?_ ?_ _ _ ⟨rfl, rfl, hi.byValue⟩
  · rintro v rest r s' ⟨hr, rfl, hall⟩
    rw [eqIsQuiet_byValue _ (hall v List.mem_cons_self)]
    refine wpAny_bind (wpAny_pure ?_)
    simp only [Bool.not_true, Bool.false_eq_true, if_false]
    exact wpAny_pure ⟨rfl, rfl, fun u hu' => hall u (List.mem_cons_of_mem _ hu')⟩
  · rintro ⟨r1, r2⟩ s' ⟨hr, rfl, _⟩
    simp only at hr
    subst hr
    exact wpAny_pure h
theorem quiet_nest {ks : List (List K)} {a : Addr} {Q : Bool → Shared → Prop} (hk : IsNest knd s.heap ks a) (h : Q true s) : wpAny (model prog w) A (eqIsQuiet 8 (.ref a)) Q E s := by
  have hT := hk.typeIs
  obtain ⟨o, items, n, ho, _, hd, hi⟩ := hk
  unfold eqIsQuiet
  refine wpAny_bind (wpAny_specialOf hT F.slot_tuple_eq.lookup ?_)
  show wpAny _ _ (isInstance (.ref a) (.type "tuple") >>= _) _ _ s
  refine wpAny_bind (wpAny_isInstance hT isSubtype_tuple_tuple ?_)
  simp only [Bool.not_true, Bool.false_eq_true, if_false]
  refine wpAny_bind (wpAny_seqItems ho hd ?_)
  refine wpAny_bind ?_
  show wpAny _ _ (forIn items _ _) _ _ s
  rw [← Array.forIn_toList]
  refine wpAny_forIn_list _ (fun rest r s' => r.1 = none ∧ s' = s ∧ ∃ x, ItemsT knd s.heap x rest) _ ?_ ?_ _ _ ⟨rfl, rfl, ks, hi⟩
  · rintro v rest r s' ⟨hr, rfl, x, hall⟩
    cases hall with
    | cons h1 ht =>
      refine wpAny_bind (quiet_tuple h1 ?_)
      simp only [Bool.not_true, Bool.false_eq_true, if_false]
      exact wpAny_pure ⟨rfl, rfl, _, ht⟩
  · rintro ⟨r1, r2⟩ s' ⟨hr, rfl, _⟩
    simp only at hr
    subst hr
    exact wpAny_pure h
end
def nestKind {prog : Program} {w : World} {K : Type} [DecidableEq K] (knd : KeyKind prog w K) : HeapKind prog w (List (List K)) where
  is := IsNest knd
  hash := nestHash knd
  draws := nestDraws
  room := fun A => A.units + 1 < cLine
  inj := fun hx hy => hx.inj hy
  keeps := fun x ho hd hs => x.keeps ho hd hs
  pyHash := fun hu hk h => pyHash_nest hu hk h
  eqBool := fun hu hx hy h => eqBool_nest hu hx hy h
  quiet := fun hk h => quiet_nest hk h
end L2
/-! ### dicts keyed by tuples of tuples of ints: known to the heap by .ext -/
namespace L2
open PySem PySem.Spec PyProof.Rows PySem.W
/-- a key: a tuple of tuples of ints -/
def nK (ks : List (List Int)) : D := .t (ks.map tI)
theorem hu2_of {A : Around} {k : Nat} (hr : Room k A) : A.units + 2 < cLine := by have := hr.un; omega
section
variable {P : Program} {w : World} {H : Hp} {h : Heap} {a : Addr}
def nE (P : Program) (w : World) (xs : List (List (List Int) × Addr × Value)) (a : Addr) (h : Heap) : Prop :=
  ∃ o es ep, h.get? a = some o ∧ o.ExactDict ∧ o.data = .dict es ep ∧ es.toList = xs.map (entryOfKey (nestKind (intKind P w))) ∧ (xs.map (·.1)).Nodup
abbrev NT (H : Hp) : List (List (List Int) × V) → List (List (List Int) × Addr × Value) → Prop := Paired fun p q => p.1 = q.1 ∧ Is H (nK p.1) (.ref q.2.1) ∧ RelV p.2 q.2.2
/-- the dict at a holds kvs -/
def DN (P : Program) (w : World) (H : Hp) (a : Addr) (kvs : List (List (List Int) × V)) : Prop := kvs.length ≤ sizeLine ∧ (a == sysModules) = false ∧ ∃ xs, NT H kvs xs ∧ H a = some (.ext (nE P w xs a))
theorem ints_are : ∀ {ks : List Int} {us : List Value}, Vals (ks.map V.int) us → ItemsAre (intKind P w) ks us
  | [], _, r => by rw [List.map_nil] at r; cases r; exact .nil
  | k :: ks, _, r => by
    rw [List.map_cons] at r
    cases r with
    | cons h t =>
      obtain ⟨t', rfl⟩ := h
      exact .cons (show Value.isInt k (.int k t') = true by simp [Value.isInt]) (ints_are t)
theorem key_tI {ks : List Int} (ok : HOk P w H h) (e : H a = some (.tup (ks.map V.int))) : IsTupleKey (intKind P w) h ks a := by
  obtain ⟨_, its, r, o, h1, h2, n, h3⟩ := (show ObjOk P w H h a (.tup (ks.map V.int)) from ok a _ e)
  exact ⟨o, its.toArray, n, h1, h2, h3, by simpa using ints_are r⟩
theorem items_nest (ok : HOk P w H h) : ∀ {ks : List (List Int)} {vs : List V} {us : List Value}, Iss H (ks.map tI) vs → Vals vs us → ItemsT (intKind P w) h ks us
  | [], _, _, i, r => by rw [of_nil i] at r; cases r; exact .nil
  | k :: ks, _, _, i, r => by
    obtain ⟨u, us, rfl, q, i2⟩ := of_cons i
    obtain ⟨b, rfl, hb⟩ := of_tI q
    cases r with
    | cons h t =>
      cases h
      exact .cons (key_tI ok hb) (items_nest ok i2 t)
theorem nkey_of {ks : List (List Int)} (ok : HOk P w H h) (e : Is H (nK ks) (.ref a)) : (nestKind (intKind P w)).is h ks a := by
  obtain ⟨b, vs, eb, hb, hi⟩ := of_t e
  cases eb
  obtain ⟨_, its, r, o, h1, h2, n, h3⟩ := (show ObjOk P w H h a (.tup vs) from ok a _ hb)
  exact ⟨o, its.toArray, n, h1, h2, h3, by simpa using items_nest ok hi r⟩
theorem dn_rd {kvs : List (List (List Int) × V)} (ok : HOk P w H h) (e : DN P w H a kvs) : kvs.length ≤ sizeLine ∧ (a == sysModules) = false ∧ ∃ xs, NT H kvs xs ∧ H a = some (.ext (nE P w xs a)) ∧ h.DictOfH (nestKind (intKind P w)) a xs := by
  obtain ⟨z, y, xs, r, e⟩ := e
  obtain ⟨⟨o, es, ep, h1, h2, h3, h4, h5⟩, _, _⟩ := (show ObjOk P w H h a (.ext (nE P w xs a)) from ok a _ e)
  refine ⟨z, y, xs, r, e, o, es, ep, h1, h2, h3, h4, fun x hx => ?_, h5⟩
  have all : ∀ {l : List (List (List Int) × V)} {m : List (List (List Int) × Addr × Value)}, NT H l m → ∀ x ∈ m, (nestKind (intKind P w)).is h x.1 x.2.1 := by
    intro l m q
    induction q with
    | nil => intro x hx; exact nomatch hx
    | @cons p q ps qs hq t ih =>
      intro x hx
      rcases List.mem_cons.mp hx with e | hx
      · subst e
        exact nkey_of ok (by rw [← hq.1]; exact hq.2.1)
      · exact ih x hx
  exact all r x hx
theorem dn_ok {xs : List (List (List Int) × Addr × Value)} {H' : Hp} (d : ∃ o es ep, h.get? a = some o ∧ o.ExactDict ∧ o.data = .dict es ep ∧ es.toList = xs.map (entryOfKey (nestKind (intKind P w))) ∧ (xs.map (·.1)).Nodup) : ObjOk P w H' h a (.ext (nE P w xs a)) := by
  refine ⟨d, let ⟨o, _, _, h1, _⟩ := d; ⟨o, h1⟩, fun h1 h2 f k => ?_⟩
  obtain ⟨o, es, ep, e1, r⟩ := f
  exact ⟨o, es, ep, k o e1, r⟩
theorem NT.val {kvs : List (List (List Int) × V)} {xs : List (List (List Int) × Addr × Value)} (r : NT H kvs xs) (k : List (List Int)) : RelO (valV kvs k) ((atKey xs k).map (·.2)) := by
  induction r with
  | nil => exact True.intro
  | @cons p q ps qs h t ih =>
    obtain ⟨h1, _, h2⟩ := h
    by_cases e : p.1 = k
    · have e' : q.1 = k := h1.symm.trans e
      have b : atKey (q :: qs) k = some q.2 := by simp [atKey, List.find?_cons, e']
      rw [valV_pos e, b]; exact h2
    · have e' : ¬ q.1 = k := fun z => e (h1.trans z)
      have b : atKey (q :: qs) k = atKey qs k := by simp [atKey, List.find?_cons, e']
      rw [valV_neg e, b]; exact ih
theorem NT.repl {kvs : List (List (List Int) × V)} {xs : List (List (List Int) × Addr × Value)} (r : NT H kvs xs) (k : List (List Int)) {y : V} {u : Value} (ry : RelV y u) :
    NT H (kvs.map fun kv => if kv.1 = k then (kv.1, y) else kv) (xs.map (putAt k u)) := by
  induction r with
  | nil => exact .nil
  | @cons p q ps qs h t ih =>
    rw [List.map_cons, List.map_cons]
    refine .cons ?_ ih
    obtain ⟨h1, h2, h3⟩ := h
    unfold putAt
    by_cases e : p.1 = k
    · rw [if_pos e, if_pos (h1.symm.trans e)]; exact ⟨h1, h2, ry⟩
    · rw [if_neg e, if_neg (fun z => e (h1.trans z))]; exact ⟨h1, h2, h3⟩
theorem NT.put {kvs : List (List (List Int) × V)} {xs : List (List (List Int) × Addr × Value)} (r : NT H kvs xs) (k : List (List Int)) {b : Addr} {y : V} {u : Value} (hb : Is H (nK k) (.ref b)) (ry : RelV y u) :
    NT H (putK kvs k y) (storedH xs k b u) := by
  have e : (kvs.any fun kv => decide (kv.1 = k)) = (atKey xs k).isSome := by
    rw [valV_any, (r.val k).isSome_eq, Option.isSome_map]
  unfold putK storedH
  rw [e]
  by_cases q : (atKey xs k).isSome = true
  · rw [if_pos q, if_pos q]; exact r.repl k ry
  · rw [if_neg q, if_neg q]; exact Paired.snoc r ⟨rfl, hb, ry⟩
theorem nK_keeps {H' : Hp} (ht : ∀ b ys, H b = some (.tup ys) → H' b = some (.tup ys)) {ks : List (List Int)} {v : V} (h : Is H (nK ks) v) : Is H' (nK ks) v := by
  obtain ⟨b, vs, rfl, hb, hi⟩ := of_t h
  have go : ∀ {xs : List (List Int)} {vs : List V}, Iss H (xs.map tI) vs → Iss H' (xs.map tI) vs := by
    intro xs
    induction xs with
    | nil => intro vs h; rw [of_nil h]; exact iss_nil
    | cons x xs ih =>
      intro vs h
      obtain ⟨u, us, rfl, q, r⟩ := of_cons h
      obtain ⟨c, rfl, hc⟩ := of_tI q
      exact iss_cons (is_tI (ht _ _ hc)) (ih r)
  exact is_t (ht _ _ hb) (go hi)
theorem NT.keeps {H' : Hp} {kvs : List (List (List Int) × V)} {xs : List (List (List Int) × Addr × Value)} (r : NT H kvs xs) (ht : ∀ b ys, H b = some (.tup ys) → H' b = some (.tup ys)) : NT H' kvs xs :=
  Paired.mapP r fun _ _ z => ⟨z.1, nK_keeps ht z.2.1, z.2.2⟩
/-- kept where the dict itself and the tuples are kept -/
theorem DN.keeps {H' : Hp} {kvs : List (List (List Int) × V)} (d : DN P w H a kvs) (ha : H' a = H a) (ht : ∀ b ys, H b = some (.tup ys) → H' b = some (.tup ys)) : DN P w H' a kvs := by
  obtain ⟨z, y, xs, r, e⟩ := d
  exact ⟨z, y, xs, r.keeps ht, ha.trans e⟩
theorem DN.mono {H' : Hp} {kvs : List (List (List Int) × V)} (s : Same H H') (d : DN P w H a kvs) : DN P w H' a kvs := by
  obtain ⟨z, y, xs, r, e⟩ := d
  exact ⟨z, y, xs, r.keeps fun b ys => s b _, s _ _ e⟩
theorem DN.mut {kvs : List (List (List Int) × V)} (d : DN P w H a kvs) : Mut (H a) := by
  obtain ⟨_, _, xs, _, e⟩ := d
  rw [e]
  exact True.intro
theorem DN.ntup {kvs : List (List (List Int) × V)} (d : DN P w H a kvs) {b : Addr} {ys : List V} (e : H b = some (.tup ys)) : b ≠ a := by
  obtain ⟨_, _, xs, _, e2⟩ := d
  rintro rfl
  rw [e2] at e
  cases e
end
section
variable {X : Cx} {pins : List (Addr × Obj)} {σ : St} {H : Hp} {s : Shared} {a b : Addr} {v : V} {r : Value} {A : Around} {E : Value → Shared → Prop} {kvs : List (List (List Int) × V)} {ks : List (List Int)}
theorem room_nest {prog : Program} {w : World} {A : Around} (hu : A.units + 2 < cLine) : (nestKind (intKind prog w)).room A.in1 := by
  show A.in1.units + 1 < cLine
  rw [units_in1]
  omega
theorem n_getItem {Q : Value → Shared → Prop} (hu : A.units + 2 < cLine) (I : Inv X pins σ H s) (d : DN X.prog X.w H a kvs) (k : Is H (nK ks) (.ref b)) (l : valV kvs ks = some v) (h : ∀ w' s', Inv X pins σ H s' → RelV v w' → Q w' s') :
    wpAny (model X.prog X.w) A (getItem (.ref a) (.ref b)) Q E s := by
  obtain ⟨z, hd, xs, rel, _, dd⟩ := dn_rd I.hok d
  obtain ⟨w', hw, rw'⟩ := RelO.some_of (v := v) (o := (atKey xs ks).map (·.2)) (by rw [← l]; exact rel.val ks)
  obtain ⟨p, hp, hp2⟩ := Option.map_eq_some_iff.mp hw
  refine wpAny_getItem_heap (room_nest hu) (nkey_of I.hok k) dd hp ?_
  rw [hp2]
  exact h w' _ (I.tok _) rw'
theorem n_in {Q : Value → Shared → Prop} (hu : A.units + 2 < cLine) (I : Inv X pins σ H s) (d : DN X.prog X.w H a kvs) (k : Is H (nK ks) (.ref b)) (h : ∀ s', Inv X pins σ H s' → Q (.bool (valV kvs ks).isSome) s') :
    wpAny (model X.prog X.w) A (compareOp .In (.ref b) (.ref a)) Q E s := by
  obtain ⟨z, hd, xs, rel, _, dd⟩ := dn_rd I.hok d
  refine wpAny_in_heap (room_nest hu) (nkey_of I.hok k) hd dd ?_
  have q := (rel.val ks).isSome_eq
  rw [Option.isSome_map] at q
  rw [← q]
  exact h _ (I.tok _)
theorem n_setItem {Q : Unit → Shared → Prop} (hu : A.units + 2 < cLine) (I : Inv X pins σ H s) (d : DN X.prog X.w H a kvs) (k : Is H (nK ks) (.ref b)) (hl : kvs.length < sizeLine) (rv : RelV v r)
    (h : ∀ H' s', DN X.prog X.w H' a (putK kvs ks v) → (∀ b, b ≠ a → H' b = H b) → Inv X pins σ H' s' → Q () s') : wpAny (model X.prog X.w) A (setItem (.ref a) (.ref b) r) Q E s := by
  obtain ⟨z, hd, xs, rel, e, dd⟩ := dn_rd I.hok d
  have hz : xs.length ≤ sizeLine := by rw [← Paired.length rel]; exact z
  have hl' : (putK kvs ks v).length ≤ sizeLine := by have := length_putK kvs ks v; omega
  refine wpAny_setItem_heap (hsz := hz) (room_nest hu) (nkey_of I.hok k) dd fun h' dd' hs => ?_
  obtain ⟨q, es, ep, hq, h2, h3, h4, _, h5⟩ := dd'
  refine h (upd H a (.ext (nE X.prog X.w (storedH xs ks b r) a))) _ ⟨hl', hd, _, (rel.put ks k rv).keeps fun c ys ec => ?_, upd_same⟩ (fun c hc => upd_ne hc) (d_write I d.mut hs ⟨q, hq⟩ (dn_ok ⟨q, es, ep, hq, h2, h3, h4, h5⟩))
  rw [upd_ne (d.ntup ec)]
  exact ec
theorem dn_at (I : Inv X pins σ H s) (d : DN X.prog X.w H a kvs) : s.TypeIs (.ref a) "dict" ∧ (∀ b, Value.ref a = .ref b → ∃ ob, s.heap.get? b = some ob ∧ ob.dict = none) ∧ (a == sysModules) = false := by
  obtain ⟨_, hd, xs, _, _, dd⟩ := dn_rd I.hok d
  refine ⟨dd.typeIs, fun b q => ?_, hd⟩
  cases q
  obtain ⟨ob, _, _, h1, h2, _⟩ := dd
  exact ⟨ob, h1, h2.2.1⟩
end
/-- d[y] -/
def tNGet (P : Program) (w : World) (td ty : TE) : TE := fun σ H Q => td σ H fun x H1 => ty σ H1 fun y H2 => ∃ a kvs ks v, x = .ref a ∧ DN P w H2 a kvs ∧ Is H2 (nK ks) y ∧ valV kvs ks = some v ∧ Q v H2
def tNIn (P : Program) (w : World) (ty td : TE) : TE := fun σ H Q => ty σ H fun y H1 => td σ H1 fun x H2 => ∃ a kvs ks, x = .ref a ∧ DN P w H2 a kvs ∧ Is H2 (nK ks) y ∧ Q (.bl (valV kvs ks).isSome) H2
def sNPut (P : Program) (w : World) (td ty tv : TE) : TS := fun D σ H => tv σ H fun v H1 => td σ H1 fun x H2 => ty σ H2 fun y H3 => ∃ a kvs ks, x = .ref a ∧ DN P w H3 a kvs ∧ Is H3 (nK ks) y ∧ kvs.length < sizeLine ∧ ∀ H4, DN P w H4 a (putK kvs ks v) → (∀ b, b ≠ a → H4 b = H3 b) → D.nx σ H4
def tNNew (P : Program) (w : World) : TE := fun _ H Q => ∀ p H', H p = none → DN P w H' p [] → (∀ b, b ≠ p → H' b = H b) → Q (.ref p) H'
section
variable {X : Cx} {o i e f value ek ev : Expr} {pos pos' apos cpos : Pos} {td ty tv tx tk : TE}
theorem nref {H : Hp} {ks : List (List Int)} {y : V} {u : Value} (h : Is H (nK ks) y) (r : RelV y u) : ∃ b, y = .ref b ∧ u = .ref b := by
  obtain ⟨b, _, rfl, _⟩ := of_t h
  exact ⟨b, rfl, r⟩
theorem pe_nget (hu : X.A.units + 2 < cLine) (ho : PE X o td) (hi : PE X i ty) (hs : NoSl i) : PE X (.Subscript o i pos) (tNGet X.prog X.w td ty) := by
  intro pins s σ H Q I h
  refine subD_of PySem.F.slot_dict_getitem.lookup hs (thn (ho pins s σ H _ I h) fun u s1 ⟨x, H1, I1, rx, q1⟩ => thn (hi pins s1 σ H1 _ I1 q1) fun iv s2 ⟨y, H2, I2, ry, a, kvs, ks, v, ex, d, k, l, q2⟩ => ?_)
  subst ex
  obtain rfl : u = Value.ref a := rx
  obtain ⟨b, rfl, rfl⟩ := nref k ry
  exact ⟨(dn_at I2 d).1, n_getItem hu I2 d k l fun w' s3 I3 rw' => ⟨v, H2, I3, rw', q2⟩⟩
theorem pc_nin (hu : X.A.units + 2 < cLine) (hi : PE X i ty) (ho : PE X o td) : PC X .In i o (tNIn X.prog X.w ty td) := by
  intro pins s σ H Q I h
  refine thn (hi pins s σ H _ I h) fun iv s1 ⟨y, H1, I1, ry, q1⟩ => thn (ho pins s1 σ H1 _ I1 q1) fun u s2 ⟨x, H2, I2, rx, a, kvs, ks, ex, d, k, q2⟩ => ?_
  subst ex
  obtain rfl : u = Value.ref a := rx
  obtain ⟨b, rfl, rfl⟩ := nref k ry
  exact n_in hu I2 d k fun s3 I3 => ⟨.bl _, H2, I3, rfl, q2⟩
theorem ps_nput (hu : X.A.units + 2 < cLine) (ho : PE X o td) (hi : PE X i ty) (hv : PE X value tv) (hs : swapsWith value (some (.Subscript o i pos')) pos.line X.env = pure false) :
    PS X (.Assign [.Subscript o i pos'] value pos) (sNPut X.prog X.w td ty tv) := by
  intro pins s σ H D I h
  refine wpAny_Assign_Subscript (thn (hv pins s σ H _ I h) fun r s1 ⟨v, H1, I1, rv, q1⟩ => thn (ho pins s1 σ H1 _ I1 q1) fun u s2 ⟨x, H2, I2, rx, q2⟩ => thn (hi pins s2 σ H2 _ I2 q2) fun iv s3 ⟨y, H3, I3, ry, a, kvs, ks, ex, d, k, hl, q3⟩ => ?_) hs
  subst ex
  obtain rfl : u = Value.ref a := rx
  obtain ⟨b, rfl, rfl⟩ := nref k ry
  exact n_setItem hu I3 d k hl rv fun H4 s4 d4 k4 I4 => ⟨σ, H4, I4, q3 H4 d4 k4⟩
theorem dn_empty {P : Program} {w : World} {H : Hp} {h : Heap} {p : Addr} (hp : p = h.objs.size) (hb : sysModules < h.objs.size) : DN P w (upd H p (.ext (nE P w [] p))) p [] := by
  subst hp
  exact ⟨Nat.zero_le _, beq_eq_false_iff_ne.mpr (Ne.symm (Nat.ne_of_lt hb)), [], .nil, upd_same⟩
theorem dn_empty_ok {P : Program} {w : World} {H : Hp} (h : Heap) : ObjOk P w H (h.push { cls := .type "dict", data := .dict #[] }) h.objs.size (.ext (nE P w [] h.objs.size)) :=
  dn_ok ⟨_, #[], 0, Heap.get?_push_size _ rfl, ⟨rfl, rfl, rfl⟩, rfl, rfl, List.nodup_nil⟩
theorem pe_nnew : PE X (.Dict [] [] pos) (tNNew X.prog X.w) := fun pins s σ H Q I h =>
  wpAny_Dict_empty ⟨.ref s.heap.objs.size, _, I.laid (a := s.heap.objs.size) (o := .ext (nE X.prog X.w [] s.heap.objs.size)) (t' := s.toks) (fun _ _ q => Heap.get?_push_of_some _ q) (Nat.le_refl _) (dn_empty_ok s.heap), rfl, h _ _ (I.hok.fresh (Nat.le_refl _)) (dn_empty rfl I.big) (fun b hb => upd_ne hb)⟩
end
end L2
/-! ### len(d) and list(d) of a dict keyed by tuples of tuples -/
namespace L2
open PySem PySem.Spec PyProof.Rows PySem.W
section
variable {prog : Program} {w : World} {A : Around} {E : Value → Shared → Prop} {s : Shared}
theorem walk_keys (hh : A.handled = none) (I d : Addr) (hne : d ≠ I) {o : Obj} {es : Array DictEntry} {ep : Nat} (hdat : o.data = .dict es ep) :
    Walks prog w A I [I, d] [I] es.size (fun i v => ∃ e, es[i]? = some e ∧ v = e.key) (fun i h => h.IsKeyIter I d i es.size ep ∧ h.get? d = some o) where
  sub := fun b hb => by simp at hb; simp [hb]
  frame := fun _ _ _ st hk => ⟨st.1.at fun o e => hk I (by simp) o e, hk d (by simp) _ st.2⟩
  item := fun i s Q E hi st hQ => dit_item st.1 st.2 hdat (Array.getElem?_eq_getElem hi) fun h' hit' hs' => hQ _ h' s.toks ⟨_, Array.getElem?_eq_getElem hi, rfl⟩ ⟨hit', hs'.extBut d _ hne st.2⟩ fun b o hb e => hs'.extBut b o (fun h => hb (by simp [h])) e
  done := fun s Q E st hQ => dit_end hh st.1 st.2 hdat (Nat.le_refl _) fun h' he' => hQ h' s.toks fun b o hb e => he' b o (fun h => hb (by simp [h])) e
  self := fun _ _ _ _ st hQ => wpAny_pyIter_keyiter st.1 hQ
theorem hint_dict {d : Addr} {Q : Bool → Shared → Prop} (hT : s.TypeIs (.ref d) "dict") (h : Q false s) :
    wpAny (model prog w) A (Builtin.List.listLengthHint (.ref d)) Q E s := by
  unfold Builtin.List.listLengthHint
  refine wpAny_bind (wpAny_specialOf hT PySem.F.slot_dict_len.lookup ?_)
  wp_delta
  refine wpAny_bind (wpAny_isInstance (b := true) hT (by rw [isSubtype_type]; kernel_rfl) ?_)
  show wpAny _ A (typeOf (.ref d) >>= _) _ _ _
  refine wpAny_bind (wpAny_typeOf hT ?_)
  exact wpAny_pure h
theorem extend_dict {R : Result → Shared → Prop} {d : Addr} {o : Obj} {es : Array DictEntry} {ep : Nat} (hh : A.handled = none) (hd : (d == sysModules) = false) (ho : s.heap.get? d = some o) (hc : o.ExactDict) (hdat : o.data = .dict es ep) (hlen : es.size ≤ 2 ^ 24)
    (S : Addr) (res : Value) (c₀ : Nat) (hS : s.heap.get? S = some { cls := .type "list", data := .seq #[] c₀ })
    (hR : ∀ h' tk acc' c', (∀ b o, b ≠ S → s.heap.get? b = some o → h'.get? b = some o) → h'.get? S = some { cls := .type "list", dict := none, data := .seq acc' c', slots := #[] } →
      ItemsOf (fun i v => ∃ e, es[i]? = some e ∧ v = e.key) acc' es.size → R (.ok (.ret res)) { s with heap := h', toks := tk }) :
    wpAny (model prog w) A.in1 (Builtin.List.listExtendWith (.ref S) (.ref d) res)
      (fun fin s' => match fin with | .done f => R (.ok f) s' | .again c' => c'.quiet = true ∧ codeAny (model prog w) A c' R s') (fun e s' => R (.error e) s') s := by
  have hSd : S ≠ d := fun e => by rw [e, ho] at hS; have := Option.some.inj hS; rw [this] at hdat; cases hdat
  have hSlt : S < s.heap.objs.size := Heap.lt_size hS
  have hdlt : d < s.heap.objs.size := Heap.lt_size ho
  have hSI : S ≠ s.heap.objs.size := Nat.ne_of_lt hSlt
  have hSf : S ∉ [s.heap.objs.size, d] := fun hm => by
    rcases List.mem_cons.mp hm with e | hm
    · exact hSI e
    · exact hSd (List.mem_singleton.mp hm)
  have W := (walk_keys (prog := prog) (w := w) (A := A.in1) hh s.heap.objs.size d (Nat.ne_of_lt hdlt) hdat).toS
  have key : ∀ (h : Heap) (c₁ tk : Nat), h.IsKeyIter s.heap.objs.size d 0 es.size ep ∧ h.get? d = some o → (∀ b o, b ≠ S → s.heap.get? b = some o → h.get? b = some o) →
      h.get? S = some { cls := .type "list", data := .seq #[] c₁ } → codeAny (model prog w) A (.builtin "list.extend.loop" ⟨[.ref S, .ref s.heap.objs.size, res], []⟩) R { s with heap := h, toks := tk } := by
    intro h c₁ tk hit hk hS₁
    refine codeAny_extend_loopS W (by rw [sizeLine_eq]; omega) S hSf res es.size 0 _ #[] c₁ rfl (Nat.zero_le _) hit hS₁ (ItemsOf.nil _) fun s' acc' c' hm hS' hacc => ?_
    rw [Moved.eq_with hm]
    refine hR s'.heap s'.toks acc' c' (fun b o hb e => hm.heap b o (fun hmem => ?_) (hk b o hb e)) hS' hacc
    rcases List.mem_cons.mp hmem with e' | hmem
    · exact hb e'
    · exact absurd (Heap.lt_size e) (by rw [List.mem_singleton.mp hmem]; exact Nat.lt_irrefl _)
  unfold Builtin.List.listExtendWith
  refine wpAny_bind (wpAny_typeOf (T := "dict") ⟨o, ho, hc.1⟩ ?_)
  have h1 : Builtin.List.listSameRef (.ref S) (.ref d) = false := by simp [Builtin.List.listSameRef, hSd]
  have h2 : (Value.type "dict" == Value.type "list") = false := by decide
  have h3 : (Value.type "dict" == Value.type "tuple") = false := by decide
  simp only [h1, h2, h3, Bool.or_false, Bool.false_eq_true, if_false]
  refine wpAny_bind (dit_iter hd ho hc hdat ?_)
  refine wpAny_bind (wpAny_holding (hint_dict ⟨o, Heap.get?_push_of_some _ ho, hc.1⟩ ?_))
  have hit₁ : (s.heap.push { cls := .type "dict_keyiterator", data := .fields #[.ref d, .int 0 0, .int es.size 0, .int ep 0] }).IsKeyIter s.heap.objs.size d 0 es.size ep := ⟨_, Heap.get?_push_size _ rfl, rfl, rfl⟩
  have hS₁ := Heap.get?_push_of_some { cls := .type "dict_keyiterator", data := .fields #[.ref d, .int 0 0, .int es.size 0, .int ep 0] } hS
  have ho₁ := Heap.get?_push_of_some { cls := .type "dict_keyiterator", data := .fields #[.ref d, .int 0 0, .int es.size 0, .int ep 0] } ho
  rw [if_pos (by decide)]
  refine wpAny_bind (wpAny_rule ?_)
  refine wpAny_bind ?_
  show wpAny _ _ (updateSeq S (·.push .none) >>= fun _ => updateSeq S (·.pop)) _ _ _
  refine wpAny_bind (wpAny_updateSeq hS₁ rfl ?_)
  have hS₂ := Heap.get?_update_self (Obj.mapSeq (·.push Value.none)) hS₁ rfl
  refine wpAny_updateSeq (hz := by seq_fits) hS₂ rfl ?_
  have hS₃ := Heap.get?_update_self (Obj.mapSeq (·.pop)) hS₂ rfl
  refine wpAny_pure ⟨plainId_quiet F.plain_extend_loop _, key _ _ _ ⟨?_, ?_⟩ (fun b o hb e => ?_) hS₃⟩
  · exact hit₁.at fun o e => (Heap.get?_update_other _ _ hSI).trans ((Heap.get?_update_other _ _ hSI).trans e)
  · exact (Heap.get?_update_other _ _ hSd).trans ((Heap.get?_update_other _ _ hSd).trans ho₁)
  · exact (Heap.get?_update_other _ _ (Ne.symm hb)).trans ((Heap.get?_update_other _ _ (Ne.symm hb)).trans (Heap.get?_push_of_some _ e))
theorem list_init_dict {R : Result → Shared → Prop} {d : Addr} {o : Obj} {es : Array DictEntry} {ep : Nat} (hh : A.handled = none) (hd : (d == sysModules) = false) (ho : s.heap.get? d = some o) (hc : o.ExactDict) (hdat : o.data = .dict es ep) (hlen : es.size ≤ 2 ^ 24)
    (S : Addr) (hS : s.heap.get? S = some { cls := .type "list", data := .seq #[] })
    (hR : ∀ h' tk acc' c', (∀ b o, b ≠ S → s.heap.get? b = some o → h'.get? b = some o) → h'.get? S = some { cls := .type "list", dict := none, data := .seq acc' c', slots := #[] } →
      ItemsOf (fun i v => ∃ e, es[i]? = some e ∧ v = e.key) acc' es.size → R (.ok (.ret .none)) { s with heap := h', toks := tk }) :
    wpAny (model prog w) A.in1 (Builtin.«list.__init__» ⟨[.ref S, .ref d], []⟩)
      (fun fin s' => match fin with | .done f => R (.ok f) s' | .again c' => c'.quiet = true ∧ codeAny (model prog w) A c' R s') (fun e s' => R (.error e) s') s := by
  have hSd : S ≠ d := fun e => by rw [e, ho] at hS; have := Option.some.inj hS; rw [this] at hdat; cases hdat
  show wpAny _ _ (do let old ← Builtin.List.listItems (.ref S); Builtin.List.listUpdate (.ref S) (fun _ => #[]); letGo old.toList.reverse; Builtin.List.listExtendWith (.ref S) (.ref d) .none) _ _ s
  refine wpAny_bind ?_
  unfold Builtin.List.listItems
  refine wpAny_bind (wpAny_seqItems hS rfl (wpAny_pure ?_))
  show wpAny _ _ (updateSeq S (fun _ => #[]) >>= fun _ => letGo (#[] : Array Value).toList.reverse >>= fun _ => Builtin.List.listExtendWith (.ref S) (.ref d) .none) _ _ s
  refine wpAny_bind (wpAny_updateSeq hS rfl ?_)
  have hS₂ := Heap.get?_update_self (Obj.mapSeq (fun _ => (#[] : Array Value))) hS rfl
  have oth : ∀ b o, b ≠ S → s.heap.get? b = some o → (s.heap.update S (Obj.mapSeq (fun _ => (#[] : Array Value)))).get? b = some o :=
    fun b o hb e => (Heap.get?_update_other _ _ (Ne.symm hb)).trans e
  refine wpAny_bind (wpAny_letGo ?_)
  refine extend_dict hh hd (oth d _ (Ne.symm hSd) ho) hc hdat hlen S .none _ hS₂ fun h' tk acc' c' hk hS' hacc => ?_
  exact hR h' tk acc' c' (fun b o hb e => hk b o hb (oth b o hb e)) hS' hacc
theorem call_list_raw {Q : Value → Shared → Prop} {d : Addr} {o : Obj} {es : Array DictEntry} {ep : Nat} (hh : A.handled = none) (hd : (d == sysModules) = false) (ho : s.heap.get? d = some o) (hc : o.ExactDict) (hdat : o.data = .dict es ep) (hlen : es.size ≤ 2 ^ 24)
    (hQ : ∀ h' tk acc' c', (∀ b o, s.heap.get? b = some o → h'.get? b = some o) →
      h'.get? s.heap.objs.size = some { cls := .type "list", dict := none, data := .seq acc' c', slots := #[] } → ItemsOf (fun i v => ∃ e, es[i]? = some e ∧ v = e.key) acc' es.size → Q (.ref s.heap.objs.size) { s with heap := h', toks := tk }) :
    wpAny (model prog w) A (call (.type "list") [.ref d]) Q E s := by
  refine callType_codes (Q₁ := fun obj s₁ => obj = .ref s.heap.objs.size ∧ s₁ = { s with heap := s.heap.push { cls := .type "list", data := .seq #[] } }) F.called_list (F.typeCall_list_1 _) F.entry_list_init
    (code_list_new _ ⟨rfl, rfl⟩) fun obj s₁ h₁ => ?_
  obtain ⟨rfl, rfl⟩ := h₁
  have hS : (s.heap.push { cls := .type "list", data := .seq #[] }).get? s.heap.objs.size = some { cls := .type "list", data := .seq #[] } := Heap.get?_push_size _ rfl
  refine ⟨⟨_, hS, rfl⟩, F.args_list_init_2 _ _, list_init_dict (A := A.in1) hh hd (Heap.get?_push_of_some _ ho) hc hdat hlen _ hS fun h' tk acc' c' hk hS' hacc => ?_⟩
  exact ⟨rfl, hQ h' tk acc' c' (fun b o e => hk b o (Nat.ne_of_lt (Heap.lt_size e)) (Heap.get?_push_of_some _ e)) hS' hacc⟩
end
section
variable {X : Cx}
/-- list(d): its keys -/
theorem call_listN2 (hc : X.calm = true) : CallR X (.type "list") (fun vs H Q => ∃ a kvs, vs = [V.ref a] ∧ DN X.prog X.w H a kvs ∧ kvs.length ≤ 2 ^ 24 ∧ ∀ l H', H l = none → Same H H' → Is H' (.l (kvs.map fun p => nK p.1)) (.ref l) → Q (.ref l) H') := by
  intro pins s σ H xs us Q I r ⟨a, kvs, ex, d, hl, q⟩
  subst ex
  obtain ⟨u, rfl, r1⟩ : ∃ u, us = [u] ∧ RelV (.ref a) u := by cases r with | cons h t => cases t; exact ⟨_, rfl, h⟩
  cases r1
  obtain ⟨z, hd, xs, rel, _, o, es, ep, h1, h2, h3, h4, _, h5⟩ := dn_rd I.hok d
  have hsz : es.size = kvs.length := by rw [← Array.length_toList, h4, List.length_map, ← Paired.length rel]
  refine call_list_raw (I.ok.hd hc) hd h1 h2 h3 (by omega) fun h' tk acc' c' hk hS hacc => ?_
  have hn := I.hok.fresh (Nat.le_refl s.heap.objs.size)
  have vals : ∃ vs, Vals vs acc'.toList ∧ Iss H (kvs.map fun p => nK p.1) vs := by
    obtain ⟨a1, a2⟩ := hacc
    have go : ∀ {l : List (List (List Int) × V)} {m : List (List (List Int) × Addr × Value)}, NT H l m → Vals (m.map fun q => V.ref q.2.1) (m.map fun q => Value.ref q.2.1) ∧ Iss H (l.map fun p => nK p.1) (m.map fun q => V.ref q.2.1) := by
      intro l m t
      induction t with
      | nil => exact ⟨.nil, iss_nil⟩
      | cons h _ ih => exact ⟨.cons rfl ih.1, iss_cons h.2.1 ih.2⟩
    have e : acc'.toList = xs.map fun q => Value.ref q.2.1 := by
      refine List.ext_getElem? fun i => ?_
      rw [List.getElem?_map]
      by_cases hi : i < xs.length
      · have hi' : i < acc'.toList.length := by rw [Array.length_toList, a1, hsz, Paired.length rel]; exact hi
        obtain ⟨en, e1, e2⟩ := a2 i _ (by rw [← Array.getElem?_toList]; exact List.getElem?_eq_getElem hi')
        rw [List.getElem?_eq_getElem hi', e2]
        rw [← Array.getElem?_toList, h4, List.getElem?_map, List.getElem?_eq_getElem hi] at e1
        have e1 := Option.some.inj e1
        rw [← e1, List.getElem?_eq_getElem hi]
        rfl
      · have hi' : ¬ i < acc'.toList.length := by rw [Array.length_toList, a1, hsz, Paired.length rel]; exact hi
        rw [List.getElem?_eq_none (by omega), List.getElem?_eq_none (by omega)]
        rfl
    rw [e]
    exact ⟨_, go rel⟩
  obtain ⟨vs, v1, v2⟩ := vals
  have ln : vs.length = kvs.length := by rw [v2.length, List.length_map]
  refine ⟨.ref s.heap.objs.size, _, I.laid (t' := tk) hk (Nat.le_refl _) (show ObjOk X.prog X.w _ h' _ (.lst vs) from ⟨by omega, acc'.toList, c', v1, hS⟩), rfl, q _ _ hn (Same.new hn) (is_l upd_same (v2.mono (Same.new hn)))⟩
end
end L2
/-! ### min and max of two things, told by the answer to one question -/
namespace PySem.SeqAt
open AutoSeq1 (wpAny_loadPart')
open MeetsSeq MeetsSeq2 MeetsSeq3 SeqRoads2
def GtAt (A : Around) (s : Shared) (y x : Value) (b : Bool) : Prop :=
  ∀ (prog : Program) (w : World) (E : Value → Shared → Prop) (Q : Value → Shared → Prop), Q (.bool b) s → wpAny (model prog w) A (richCompare .Gt y x) Q E s
section
variable {prog : Program} {w : World} {A : Around} {R : Result → Shared → Prop} {I S : Addr} {fp wr : List Addr} {P : Nat → Value → Prop} {St : Nat → Heap → Prop} {a b : Value} {lt : Bool}
theorem min_end (W : Walks prog w A.in1 I fp wr 2 P St) (hSf : S ∉ fp) {s : Shared} {c : Nat} {v : Value} (hst : St 2 s.heap)
    (hS : s.heap.get? S = some { cls := .type "list", dict := none, data := .seq #[v, v] c, slots := #[] })
    (hR : ∀ h' tk, (∀ b o, b ∉ wr → b ≠ S → s.heap.get? b = some o → h'.get? b = some o) → R (.ok (.ret v)) { s with heap := h', toks := tk }) :
    codeAny (model prog w) A (.builtin "min.loop" ⟨[.ref I, .none, .ref S], []⟩) R s := by
  have hSw : S ∉ wr := fun h => hSf (W.sub _ h)
  refine codeAny_builtin F.entry_min_loop ?_
  rw [Around.under_plainId F.plain_min_loop _]
  show wpAny _ A.in1 (seqItems? (.ref S) >>= _) _ _ s
  refine wpAny_bind (wpAny_seqItems hS rfl ?_)
  show wpAny _ A.in1 (tryCatch (pyNext (.ref I)) _ >>= _) _ _ s
  refine wpAny_bind (wpAny_tryCatch (W.done s _ _ hst fun h' tk hk => ?_))
  show wpAny _ A.in1 (updateSeq S (fun _ => #[]) >>= _) _ _ _
  refine wpAny_bind (wpAny_updateSeq (hk S _ hSw hS) rfl (wpAny_bind (wpAny_letGo (wpAny_pure ?_))))
  exact hR _ tk fun b o hbw hbS e => (Heap.get?_update_other _ _ (Ne.symm hbS)).trans (hk b o hbw e)
theorem min_ask (W : Walks prog w A.in1 I fp wr 2 P St) (hSf : S ∉ fp) (hP : ∀ v, P 1 v → v = b) {s : Shared} {c : Nat} (hst : St 1 s.heap)
    (hS : s.heap.get? S = some { cls := .type "list", dict := none, data := .seq #[a, a] c, slots := #[] })
    (hcmp : ∀ h' tk, (∀ b o, b ∉ wr → b ≠ S → s.heap.get? b = some o → h'.get? b = some o) → LtAt A.in1 { s with heap := h', toks := tk } b a lt)
    (hR : ∀ h' tk, (∀ b o, b ∉ wr → b ≠ S → s.heap.get? b = some o → h'.get? b = some o) → R (.ok (.ret (if lt then b else a))) { s with heap := h', toks := tk }) :
    codeAny (model prog w) A (.builtin "min.loop" ⟨[.ref I, .none, .ref S], []⟩) R s := by
  have hSw : S ∉ wr := fun h => hSf (W.sub _ h)
  have hname : (toString "min" ++ toString ".loop" : String) = "min.loop" := by decide
  refine codeAny_builtin F.entry_min_loop ?_
  rw [Around.under_plainId F.plain_min_loop _]
  show wpAny _ A.in1 (seqItems? (.ref S) >>= _) _ _ s
  refine wpAny_bind (wpAny_seqItems hS rfl ?_)
  show wpAny _ A.in1 (tryCatch (pyNext (.ref I)) _ >>= _) _ _ s
  refine wpAny_bind (wpAny_tryCatch (W.item 1 s _ _ (by decide) hst fun v h' tk hv hst' hk => ?_))
  rw [hP v hv]
  have hS' := hk S _ hSw hS
  show wpAny _ A.in1 (tryCatch (holding [b, b] (richCompare .Lt b a >>= _)) _ >>= _) _ _ _
  refine wpAny_bind (wpAny_tryCatch (wpAny_holding (wpAny_bind (hcmp h' tk (fun b o hbw _ e => hk b o hbw e) prog w _ _ ?_))))
  refine wpAny_bind (wpAny_holding (wpAny_truthy_bool ?_))
  refine wpAny_bind (wpAny_letGo (wpAny_pure ?_))
  cases lt with
  | true =>
    simp only [if_true] at hR ⊢
    refine wpAny_bind (wpAny_updateSeq hS' rfl (wpAny_bind (wpAny_letGo ?_)))
    rw [hname]
    refine wpAny_pure ⟨plainId_quiet F.plain_min_loop _, min_end W hSf (W.frame _ _ _ hst' fun b hbf o e => ?_) (Heap.get?_update_self _ hS' rfl) fun h'' tk'' hk'' => ?_⟩
    · exact (Heap.get?_update_other _ _ (fun h : S = b => hSf (by rw [h]; exact hbf))).trans e
    · exact hR h'' tk'' fun b o hbw hbS e => hk'' b o hbw hbS ((Heap.get?_update_other _ _ (Ne.symm hbS)).trans (hk b o hbw e))
  | false =>
    simp only [Bool.false_eq_true, if_false] at hR ⊢
    refine wpAny_bind (wpAny_letGo ?_)
    rw [hname]
    refine wpAny_pure ⟨plainId_quiet F.plain_min_loop _, min_end W hSf hst' hS' fun h'' tk'' hk'' => ?_⟩
    exact hR h'' tk'' fun b o hbw hbS e => hk'' b o hbw hbS (hk b o hbw e)
theorem min_first (W : Walks prog w A.in1 I fp wr 2 P St) (hSf : S ∉ fp) (hP0 : ∀ v, P 0 v → v = a) (hP : ∀ v, P 1 v → v = b) {s : Shared} {c : Nat} (hst : St 0 s.heap)
    (hS : s.heap.get? S = some { cls := .type "list", dict := none, data := .seq #[] c, slots := #[] })
    (hcmp : ∀ h' tk, (∀ b o, b ∉ wr → b ≠ S → s.heap.get? b = some o → h'.get? b = some o) → LtAt A.in1 { s with heap := h', toks := tk } b a lt)
    (hR : ∀ h' tk, (∀ b o, b ∉ wr → b ≠ S → s.heap.get? b = some o → h'.get? b = some o) → R (.ok (.ret (if lt then b else a))) { s with heap := h', toks := tk }) :
    codeAny (model prog w) A (.builtin "min.loop" ⟨[.ref I, .none, .ref S], []⟩) R s := by
  have hSw : S ∉ wr := fun h => hSf (W.sub _ h)
  have hname : (toString "min" ++ toString ".loop" : String) = "min.loop" := by decide
  refine codeAny_builtin F.entry_min_loop ?_
  rw [Around.under_plainId F.plain_min_loop _]
  show wpAny _ A.in1 (seqItems? (.ref S) >>= _) _ _ s
  refine wpAny_bind (wpAny_seqItems hS rfl ?_)
  show wpAny _ A.in1 (tryCatch (pyNext (.ref I)) _ >>= _) _ _ s
  refine wpAny_bind (wpAny_tryCatch (W.item 0 s _ _ (by decide) hst fun v h' tk hv hst' hk => ?_))
  rw [hP0 v hv]
  have hS' := hk S _ hSw hS
  show wpAny _ A.in1 (updateSeq S (fun _ => #[a, a]) >>= _) _ _ _
  refine wpAny_bind (wpAny_updateSeq hS' rfl ?_)
  rw [hname]
  refine wpAny_pure ⟨plainId_quiet F.plain_min_loop _, min_ask (lt := lt) W hSf hP (W.frame _ _ _ hst' fun b hbf o e => ?_) (Heap.get?_update_self _ hS' rfl) (fun h'' tk'' hk'' => ?_) fun h'' tk'' hk'' => ?_⟩
  · exact (Heap.get?_update_other _ _ (fun h : S = b => hSf (by rw [h]; exact hbf))).trans e
  · exact hcmp h'' tk'' fun b o hbw hbS e => hk'' b o hbw hbS ((Heap.get?_update_other _ _ (Ne.symm hbS)).trans (hk b o hbw e))
  · exact hR h'' tk'' fun b o hbw hbS e => hk'' b o hbw hbS ((Heap.get?_update_other _ _ (Ne.symm hbS)).trans (hk b o hbw e))
end
section
variable {prog : Program} {w : World} {A : Around} {E : Value → Shared → Prop} {s : Shared}
theorem min_two_at {a b : Value} {lt : Bool} {Q : Value → Shared → Prop} (hh : A.handled = none)
    (hcmp : ∀ h' tk, (∀ c o, s.heap.get? c = some o → h'.get? c = some o) → LtAt A.in1 { s with heap := h', toks := tk } b a lt)
    (h : ∀ h' tk, (∀ c o, s.heap.get? c = some o → h'.get? c = some o) → Q (if lt then b else a) { s with heap := h', toks := tk }) :
    wpAny (model prog w) A (call (.builtin "min") [a, b]) Q E s := by
  have hname : (toString "min" ++ toString ".loop" : String) = "min.loop" := by decide
  have hT : (s.heap.push { cls := .type "tuple", data := .seq #[a, b] }).IsTuple s.heap.objs.size #[a, b] := ⟨_, Heap.get?_push_size _ rfl, rfl, 0, rfl⟩
  have hsz : (s.heap.push { cls := .type "tuple", data := .seq #[a, b] }).objs.size = s.heap.objs.size + 1 := Heap.size_push ..
  refine call_function_tree F.kind_min F.plain_min F.entry_min (F.args_min2 _ _) ?_
  show wpAny _ A.in1 (Builtin.Builtins.bindParams "min" ["key", "default"] 0 ⟨[], []⟩ >>= _) _ _ s
  refine wpAny_bind (wpAny_of_eq (show Builtin.Builtins.bindParams "min" ["key", "default"] 0 ⟨[], []⟩ = pure [none, none] from rfl) ?_)
  show wpAny _ A.in1 (newTuple [a, b] >>= _) _ _ s
  refine wpAny_bind (wpAny_newObj_type ?_)
  refine wpAny_bind (wpAny_pyIter_tuple hT ?_)
  refine wpAny_bind (wpAny_newObj_type ?_)
  rw [hname]
  have W := Walks.tuple (prog := prog) (w := w) (A := A.in1) hh (s.heap.push { cls := .type "tuple", data := .seq #[a, b] }).objs.size s.heap.objs.size (by rw [hsz]; exact Nat.ne_of_lt (Nat.lt_succ_self _)) #[a, b]
  have old : ∀ h' : Heap, (∀ c o, c ∉ [(s.heap.push { cls := .type "tuple", data := .seq #[a, b] }).objs.size] → c ≠ ((s.heap.push { cls := .type "tuple", data := .seq #[a, b] }).push { cls := .type "tuple_iterator", data := .fields #[.ref s.heap.objs.size, .int 0 0] }).objs.size → (((s.heap.push { cls := .type "tuple", data := .seq #[a, b] }).push { cls := .type "tuple_iterator", data := .fields #[.ref s.heap.objs.size, .int 0 0] }).push { cls := .type "list", data := .seq #[] }).get? c = some o → h'.get? c = some o) → ∀ c o, s.heap.get? c = some o → h'.get? c = some o := fun h' hk c o e => by
    have hl := Heap.lt_size e
    refine hk c o (fun hm => ?_) (fun hm => ?_) (Heap.get?_push_of_some _ (Heap.get?_push_of_some _ (Heap.get?_push_of_some _ e)))
    · rcases List.mem_cons.mp hm with e1 | hm
      · rw [e1, hsz] at hl; exact Nat.lt_irrefl _ (Nat.lt_of_succ_lt hl)
      · cases hm
    · rw [hm, Heap.size_push, hsz] at hl; exact Nat.lt_irrefl _ (Nat.lt_of_succ_lt (Nat.lt_of_succ_lt hl))
  refine wpAny_pure ⟨plainId_quiet F.plain_min_loop _, min_first (a := a) (b := b) (lt := lt) W (fun hm => ?_) (fun v hv => ?_) (fun v hv => ?_) (W.frame _ _ _ ⟨⟨_, Heap.get?_push_size _ rfl, rfl, rfl⟩, hT.push _⟩ fun c _ o e => Heap.get?_push_of_some _ e) (Heap.get?_push_size _ rfl) (fun h' tk hk => hcmp h' tk (old h' hk)) fun h' tk hk => h h' tk (old h' hk)⟩
  · simp only [List.mem_cons, List.not_mem_nil, or_false, Heap.size_push] at hm
    have hm : s.heap.objs.size + 1 + 1 = s.heap.objs.size + 1 ∨ s.heap.objs.size + 1 + 1 = s.heap.objs.size := hm
    omega
  · simpa using hv.symm
  · simpa using hv.symm
end
section
variable {prog : Program} {w : World} {A : Around} {R : Result → Shared → Prop} {I S : Addr} {fp wr : List Addr} {P : Nat → Value → Prop} {St : Nat → Heap → Prop} {a b : Value} {lt : Bool}
theorem max_end (W : Walks prog w A.in1 I fp wr 2 P St) (hSf : S ∉ fp) {s : Shared} {c : Nat} {v : Value} (hst : St 2 s.heap)
    (hS : s.heap.get? S = some { cls := .type "list", dict := none, data := .seq #[v, v] c, slots := #[] })
    (hR : ∀ h' tk, (∀ b o, b ∉ wr → b ≠ S → s.heap.get? b = some o → h'.get? b = some o) → R (.ok (.ret v)) { s with heap := h', toks := tk }) :
    codeAny (model prog w) A (.builtin "max.loop" ⟨[.ref I, .none, .ref S], []⟩) R s := by
  have hSw : S ∉ wr := fun h => hSf (W.sub _ h)
  refine codeAny_builtin F.entry_max_loop ?_
  rw [Around.under_plainId F.plain_max_loop _]
  show wpAny _ A.in1 (seqItems? (.ref S) >>= _) _ _ s
  refine wpAny_bind (wpAny_seqItems hS rfl ?_)
  show wpAny _ A.in1 (tryCatch (pyNext (.ref I)) _ >>= _) _ _ s
  refine wpAny_bind (wpAny_tryCatch (W.done s _ _ hst fun h' tk hk => ?_))
  show wpAny _ A.in1 (updateSeq S (fun _ => #[]) >>= _) _ _ _
  refine wpAny_bind (wpAny_updateSeq (hk S _ hSw hS) rfl (wpAny_bind (wpAny_letGo (wpAny_pure ?_))))
  exact hR _ tk fun b o hbw hbS e => (Heap.get?_update_other _ _ (Ne.symm hbS)).trans (hk b o hbw e)
theorem max_ask (W : Walks prog w A.in1 I fp wr 2 P St) (hSf : S ∉ fp) (hP : ∀ v, P 1 v → v = b) {s : Shared} {c : Nat} (hst : St 1 s.heap)
    (hS : s.heap.get? S = some { cls := .type "list", dict := none, data := .seq #[a, a] c, slots := #[] })
    (hcmp : ∀ h' tk, (∀ b o, b ∉ wr → b ≠ S → s.heap.get? b = some o → h'.get? b = some o) → GtAt A.in1 { s with heap := h', toks := tk } b a lt)
    (hR : ∀ h' tk, (∀ b o, b ∉ wr → b ≠ S → s.heap.get? b = some o → h'.get? b = some o) → R (.ok (.ret (if lt then b else a))) { s with heap := h', toks := tk }) :
    codeAny (model prog w) A (.builtin "max.loop" ⟨[.ref I, .none, .ref S], []⟩) R s := by
  have hSw : S ∉ wr := fun h => hSf (W.sub _ h)
  have hname : (toString "max" ++ toString ".loop" : String) = "max.loop" := by decide
  refine codeAny_builtin F.entry_max_loop ?_
  rw [Around.under_plainId F.plain_max_loop _]
  show wpAny _ A.in1 (seqItems? (.ref S) >>= _) _ _ s
  refine wpAny_bind (wpAny_seqItems hS rfl ?_)
  show wpAny _ A.in1 (tryCatch (pyNext (.ref I)) _ >>= _) _ _ s
  refine wpAny_bind (wpAny_tryCatch (W.item 1 s _ _ (by decide) hst fun v h' tk hv hst' hk => ?_))
  rw [hP v hv]
  have hS' := hk S _ hSw hS
  show wpAny _ A.in1 (tryCatch (holding [b, b] (richCompare .Gt b a >>= _)) _ >>= _) _ _ _
  refine wpAny_bind (wpAny_tryCatch (wpAny_holding (wpAny_bind (hcmp h' tk (fun b o hbw _ e => hk b o hbw e) prog w _ _ ?_))))
  refine wpAny_bind (wpAny_holding (wpAny_truthy_bool ?_))
  refine wpAny_bind (wpAny_letGo (wpAny_pure ?_))
  cases lt with
  | true =>
    simp only [if_true] at hR ⊢
    refine wpAny_bind (wpAny_updateSeq hS' rfl (wpAny_bind (wpAny_letGo ?_)))
    rw [hname]
    refine wpAny_pure ⟨plainId_quiet F.plain_max_loop _, max_end W hSf (W.frame _ _ _ hst' fun b hbf o e => ?_) (Heap.get?_update_self _ hS' rfl) fun h'' tk'' hk'' => ?_⟩
    · exact (Heap.get?_update_other _ _ (fun h : S = b => hSf (by rw [h]; exact hbf))).trans e
    · exact hR h'' tk'' fun b o hbw hbS e => hk'' b o hbw hbS ((Heap.get?_update_other _ _ (Ne.symm hbS)).trans (hk b o hbw e))
  | false =>
    simp only [Bool.false_eq_true, if_false] at hR ⊢
    refine wpAny_bind (wpAny_letGo ?_)
    rw [hname]
    refine wpAny_pure ⟨plainId_quiet F.plain_max_loop _, max_end W hSf hst' hS' fun h'' tk'' hk'' => ?_⟩
    exact hR h'' tk'' fun b o hbw hbS e => hk'' b o hbw hbS (hk b o hbw e)
theorem max_first (W : Walks prog w A.in1 I fp wr 2 P St) (hSf : S ∉ fp) (hP0 : ∀ v, P 0 v → v = a) (hP : ∀ v, P 1 v → v = b) {s : Shared} {c : Nat} (hst : St 0 s.heap)
    (hS : s.heap.get? S = some { cls := .type "list", dict := none, data := .seq #[] c, slots := #[] })
    (hcmp : ∀ h' tk, (∀ b o, b ∉ wr → b ≠ S → s.heap.get? b = some o → h'.get? b = some o) → GtAt A.in1 { s with heap := h', toks := tk } b a lt)
    (hR : ∀ h' tk, (∀ b o, b ∉ wr → b ≠ S → s.heap.get? b = some o → h'.get? b = some o) → R (.ok (.ret (if lt then b else a))) { s with heap := h', toks := tk }) :
    codeAny (model prog w) A (.builtin "max.loop" ⟨[.ref I, .none, .ref S], []⟩) R s := by
  have hSw : S ∉ wr := fun h => hSf (W.sub _ h)
  have hname : (toString "max" ++ toString ".loop" : String) = "max.loop" := by decide
  refine codeAny_builtin F.entry_max_loop ?_
  rw [Around.under_plainId F.plain_max_loop _]
  show wpAny _ A.in1 (seqItems? (.ref S) >>= _) _ _ s
  refine wpAny_bind (wpAny_seqItems hS rfl ?_)
  show wpAny _ A.in1 (tryCatch (pyNext (.ref I)) _ >>= _) _ _ s
  refine wpAny_bind (wpAny_tryCatch (W.item 0 s _ _ (by decide) hst fun v h' tk hv hst' hk => ?_))
  rw [hP0 v hv]
  have hS' := hk S _ hSw hS
  show wpAny _ A.in1 (updateSeq S (fun _ => #[a, a]) >>= _) _ _ _
  refine wpAny_bind (wpAny_updateSeq hS' rfl ?_)
  rw [hname]
  refine wpAny_pure ⟨plainId_quiet F.plain_max_loop _, max_ask (lt := lt) W hSf hP (W.frame _ _ _ hst' fun b hbf o e => ?_) (Heap.get?_update_self _ hS' rfl) (fun h'' tk'' hk'' => ?_) fun h'' tk'' hk'' => ?_⟩
  · exact (Heap.get?_update_other _ _ (fun h : S = b => hSf (by rw [h]; exact hbf))).trans e
  · exact hcmp h'' tk'' fun b o hbw hbS e => hk'' b o hbw hbS ((Heap.get?_update_other _ _ (Ne.symm hbS)).trans (hk b o hbw e))
  · exact hR h'' tk'' fun b o hbw hbS e => hk'' b o hbw hbS ((Heap.get?_update_other _ _ (Ne.symm hbS)).trans (hk b o hbw e))
end
section
variable {prog : Program} {w : World} {A : Around} {E : Value → Shared → Prop} {s : Shared}
theorem max_two_at {a b : Value} {lt : Bool} {Q : Value → Shared → Prop} (hh : A.handled = none)
    (hcmp : ∀ h' tk, (∀ c o, s.heap.get? c = some o → h'.get? c = some o) → GtAt A.in1 { s with heap := h', toks := tk } b a lt)
    (h : ∀ h' tk, (∀ c o, s.heap.get? c = some o → h'.get? c = some o) → Q (if lt then b else a) { s with heap := h', toks := tk }) :
    wpAny (model prog w) A (call (.builtin "max") [a, b]) Q E s := by
  have hname : (toString "max" ++ toString ".loop" : String) = "max.loop" := by decide
  have hT : (s.heap.push { cls := .type "tuple", data := .seq #[a, b] }).IsTuple s.heap.objs.size #[a, b] := ⟨_, Heap.get?_push_size _ rfl, rfl, 0, rfl⟩
  have hsz : (s.heap.push { cls := .type "tuple", data := .seq #[a, b] }).objs.size = s.heap.objs.size + 1 := Heap.size_push ..
  refine call_function_tree F.kind_max F.plain_max F.entry_max (F.args_max2 _ _) ?_
  show wpAny _ A.in1 (Builtin.Builtins.bindParams "max" ["key", "default"] 0 ⟨[], []⟩ >>= _) _ _ s
  refine wpAny_bind (wpAny_of_eq (show Builtin.Builtins.bindParams "max" ["key", "default"] 0 ⟨[], []⟩ = pure [none, none] from rfl) ?_)
  show wpAny _ A.in1 (newTuple [a, b] >>= _) _ _ s
  refine wpAny_bind (wpAny_newObj_type ?_)
  refine wpAny_bind (wpAny_pyIter_tuple hT ?_)
  refine wpAny_bind (wpAny_newObj_type ?_)
  rw [hname]
  have W := Walks.tuple (prog := prog) (w := w) (A := A.in1) hh (s.heap.push { cls := .type "tuple", data := .seq #[a, b] }).objs.size s.heap.objs.size (by rw [hsz]; exact Nat.ne_of_lt (Nat.lt_succ_self _)) #[a, b]
  have old : ∀ h' : Heap, (∀ c o, c ∉ [(s.heap.push { cls := .type "tuple", data := .seq #[a, b] }).objs.size] → c ≠ ((s.heap.push { cls := .type "tuple", data := .seq #[a, b] }).push { cls := .type "tuple_iterator", data := .fields #[.ref s.heap.objs.size, .int 0 0] }).objs.size → (((s.heap.push { cls := .type "tuple", data := .seq #[a, b] }).push { cls := .type "tuple_iterator", data := .fields #[.ref s.heap.objs.size, .int 0 0] }).push { cls := .type "list", data := .seq #[] }).get? c = some o → h'.get? c = some o) → ∀ c o, s.heap.get? c = some o → h'.get? c = some o := fun h' hk c o e => by
    have hl := Heap.lt_size e
    refine hk c o (fun hm => ?_) (fun hm => ?_) (Heap.get?_push_of_some _ (Heap.get?_push_of_some _ (Heap.get?_push_of_some _ e)))
    · rcases List.mem_cons.mp hm with e1 | hm
      · rw [e1, hsz] at hl; exact Nat.lt_irrefl _ (Nat.lt_of_succ_lt hl)
      · cases hm
    · rw [hm, Heap.size_push, hsz] at hl; exact Nat.lt_irrefl _ (Nat.lt_of_succ_lt (Nat.lt_of_succ_lt hl))
  refine wpAny_pure ⟨plainId_quiet F.plain_max_loop _, max_first (a := a) (b := b) (lt := lt) W (fun hm => ?_) (fun v hv => ?_) (fun v hv => ?_) (W.frame _ _ _ ⟨⟨_, Heap.get?_push_size _ rfl, rfl, rfl⟩, hT.push _⟩ fun c _ o e => Heap.get?_push_of_some _ e) (Heap.get?_push_size _ rfl) (fun h' tk hk => hcmp h' tk (old h' hk)) fun h' tk hk => h h' tk (old h' hk)⟩
  · simp only [List.mem_cons, List.not_mem_nil, or_false, Heap.size_push] at hm
    have hm : s.heap.objs.size + 1 + 1 = s.heap.objs.size + 1 ∨ s.heap.objs.size + 1 + 1 = s.heap.objs.size := hm
    omega
  · simpa using hv.symm
  · simpa using hv.symm
end
theorem tuple_gtAt (l b : Addr) (items items2 : Array Value) (n n2 : Nat) (dd dd2 : Option Addr) (sl sl2 : Array (Option Value)) (e f : Nat → Bool) :
    Meets (Builtin.«tuple.__gt__» ⟨[.ref l, .ref b], []⟩)
      (fun A R s => s.heap.get? l = some { cls := .type "tuple", dict := dd, data := .seq items n, slots := sl } ∧ s.heap.get? b = some { cls := .type "tuple", dict := dd2, data := .seq items2 n2, slots := sl2 } ∧
        (∀ j (h1 : j < items.size) (h2 : j < items2.size), EqAt A.in1 s items[j] items2[j] (e j)) ∧ (∀ j (h1 : j < items.size) (h2 : j < items2.size), e j = false → GtAt A.in1 s items[j] items2[j] (f j)) ∧
        R (.ok (.ret (.bool (lex e f items2.size items.size (min items.size items2.size) 0)))) s) :=
  .of_wp fun prog w A R s h => by
    obtain ⟨hp, g, d, tk, os⟩ := s; obtain ⟨hl, hb, he, hf, h⟩ := h
    have f2 := AutoSeq1.sub_tuple_tuple
    have hZ : (items.toList.zip items2.toList).length = min items.size items2.size := by simp
    wp_walk using wpAny_loadPart' hl, wpAny_loadPart' hb, wpAny_forIn_list _ (fun rest b s' => b.1 = none ∧ s' = ⟨hp, g, d, tk, os⟩ ∧ ∃ i, rest = (items.toList.zip items2.toList).drop i ∧ i ≤ min items.size items2.size ∧
      R (.ok (.ret (.bool (lex e f items2.size items.size (min items.size items2.size - i) i)))) ⟨hp, g, d, tk, os⟩) _
    case turn =>
      rintro ⟨y, x⟩ rest b s' ⟨hb', rfl, i, hz, hile, hR⟩
      have hlt : i < (items.toList.zip items2.toList).length := by
        rcases Nat.lt_or_ge i (items.toList.zip items2.toList).length with h' | h'
        · exact h'
        · rw [List.drop_of_length_le h'] at hz; cases hz
      have hm : i < min items.size items2.size := hZ ▸ hlt
      have h1 : i < items.size := Nat.lt_of_lt_of_le hm (Nat.min_le_left _ _)
      have h2 : i < items2.size := Nat.lt_of_lt_of_le hm (Nat.min_le_right _ _)
      rw [List.drop_eq_getElem_cons hlt] at hz
      injection hz with hyx hrest
      have hy : y = items[i] := by have := congrArg Prod.fst hyx; simpa using this
      have hx : x = items2[i] := by have := congrArg Prod.snd hyx; simpa using this
      subst hy hx
      rw [show min items.size items2.size - i = (min items.size items2.size - (i + 1)) + 1 by omega, lex] at hR
      refine wpAny_bind (he i h1 h2 prog w _ _ ?_)
      cases hy : e i with
      | true =>
        rw [hy, if_pos rfl] at hR
        wp_walk
        exact ⟨rfl, rfl, i + 1, hrest, by omega, hR⟩
      | false =>
        rw [hy, if_neg (by simp)] at hR
        rw [if_pos (show (!false) = true from rfl)]
        refine wpAny_bind (wpAny_rule ?_)
        refine wpAny_bind (hf i h1 h2 hy prog w _ _ ?_)
        wp_walk
        exact ⟨_, rfl, hR⟩
    case fin =>
      rintro ⟨b1, b2⟩ s' ⟨hb', rfl, i, hz, hile, hR⟩
      simp only at hb'
      subst hb'
      have hi : i = min items.size items2.size := by
        rcases Nat.lt_or_ge i (items.toList.zip items2.toList).length with h' | h'
        · rw [List.drop_eq_getElem_cons h'] at hz; cases hz
        · omega
      subst hi
      rw [Nat.sub_self] at hR
      wp_walk
      exact ⟨_, rfl, hR⟩
    case h =>
      exact ⟨rfl, rfl, 0, rfl, Nat.zero_le _, by simpa using h⟩
section
variable {A : Around} {s : Shared}
theorem GtAt.int_int (i : Int) (t : Tok) (j : Int) (u : Tok) : GtAt A s (.int i t) (.int j u) (decide (i > j)) := fun prog w E Q h =>
  CmpOf.ints_gt (prog := prog) (w := w) (A := A) (P := fun n v => ∃ t, v = .int (if n = 0 then i else j) t) (fun n => if n = 0 then i else j) (fun _ _ h => h) 0 1 _ _ s Q E ⟨t, rfl⟩ ⟨u, rfl⟩ h
theorem GtAt.tuples {l b : Addr} {items items2 : Array Value} {e f : Nat → Bool} (hl : s.heap.IsTuple l items) (hb : s.heap.IsTuple b items2) (hu : A.units < cLine)
    (he : ∀ j (h1 : j < items.size) (h2 : j < items2.size), EqAt A.in1 s items[j] items2[j] (e j)) (hf : ∀ j (h1 : j < items.size) (h2 : j < items2.size), e j = false → GtAt A.in1 s items[j] items2[j] (f j)) :
    GtAt A s (.ref l) (.ref b) (lex e f items2.size items.size (min items.size items2.size) 0) := fun prog w E Q h => by
  obtain ⟨⟨cls, dd, data, sl⟩, ho, hc, n, hd⟩ := id hl
  obtain ⟨⟨cls2, dd2, data2, sl2⟩, ho2, hc2, n2, hd2⟩ := id hb
  simp only at hc hd hc2 hd2
  subst hc hd hc2 hd2
  exact richCompare_meets_room (op := .Gt) ⟨_, ho, rfl⟩ ⟨_, ho2, rfl⟩ F.slot_tuple_gt F.entry_tuple_gt (F.args_tuple_gt_2 _ _) (tuple_gtAt l b items items2 n n2 dd dd2 sl sl2 e f)
    ⟨ho, ho2, he, hf, show Value.bool (lex e f items2.size items.size (min items.size items2.size) 0) ≠ Value.notImplemented ∧ Q (.bool (lex e f items2.size items.size (min items.size items2.size) 0)) s from ⟨(fun x => nomatch x), h⟩⟩ hu
end
end PySem.SeqAt
/-! ### min of two comparable things, max of two points -/
namespace L2
open PySem PySem.Spec PyProof.Rows
variable {X : Cx}
theorem call_minS (hc : X.calm = true) {k : Nat} (hr : Room k X.A) : CallR X (.builtin "min") (fun vs H Q => ∃ x y d e, vs = [x, y] ∧ LtR X.K H d y x e ∧ d ≤ 8 ∧ Q (if e then y else x) H) := by
  intro pins s σ H xs us Q I r h
  obtain ⟨x, y, d, e, rfl, hl, hd, q⟩ := h
  obtain ⟨u, v, rfl, ru, rv⟩ := vals2 r
  have hu := hr.un
  refine SeqAt.min_two_at (lt := e) (I.ok.hd hc) (fun h' tk k => hl.at_ (I.kept k) (A := X.A.in1) (by rw [units_in1]; omega) rv ru) fun h' tk k => ⟨_, H, I.kept k, ?_, q⟩
  cases e
  · exact ru
  · exact rv
def gtI (p q : Int × Int) : Bool := if p.1 = q.1 then decide (p.2 > q.2) else decide (p.1 > q.1)
theorem call_maxP (hc : X.calm = true) {k : Nat} (hr : Room k X.A) : CallR X (.builtin "max") (fun vs H Q => ∃ (a b : Addr) (p q : Int × Int), vs = [.ref a, .ref b] ∧ SqT X.K H a [.int p.1, .int p.2] ∧ SqT X.K H b [.int q.1, .int q.2] ∧ Q (if gtI q p then .ref b else .ref a) H) := by
  intro pins s σ H xs us Q I r h
  obtain ⟨a, b, p, q, rfl, hp, hq, qq⟩ := h
  obtain ⟨u, v, rfl, ru, rv⟩ := vals2 r
  have hu := hr.un
  obtain rfl : u = Value.ref a := ru
  obtain rfl : v = Value.ref b := rv
  refine SeqAt.max_two_at (lt := gtI q p) (I.ok.hd hc) (fun h' tk kp => ?_) fun h' tk kp => ⟨_, H, I.kept kp, ?_, qq⟩
  · obtain ⟨is, r1, p1, z1⟩ := (I.kept kp).tuple hp
    obtain ⟨js, r2, p2, z2⟩ := (I.kept kp).tuple hq
    obtain ⟨u1, u2, rfl, ⟨t1, rfl⟩, ⟨t2, rfl⟩⟩ := vals2 r1
    obtain ⟨w1, w2, rfl, ⟨t3, rfl⟩, ⟨t4, rfl⟩⟩ := vals2 r2
    have g := SeqAt.GtAt.tuples (A := X.A.in1) (e := fun j => if j = 0 then decide (q.1 = p.1) else decide (q.2 = p.2)) (f := fun j => if j = 0 then decide (q.1 > p.1) else decide (q.2 > p.2)) p2 p1 (by rw [units_in1]; omega) (fun j h1 h2 => ?_) (fun j h1 h2 _ => ?_)
    · have e : SeqAt.lex (fun j => if j = 0 then decide (q.1 = p.1) else decide (q.2 = p.2)) (fun j => if j = 0 then decide (q.1 > p.1) else decide (q.2 > p.2)) 2 2 2 0 = gtI q p := by
        unfold gtI
        by_cases c : q.1 = p.1
        · by_cases c2 : q.2 = p.2
          · simp [SeqAt.lex, c, c2]
          · simp [SeqAt.lex, c, c2]
        · simp [SeqAt.lex, c]
      rw [← e]
      exact g
    · match j, h1, h2 with
      | 0, _, _ => exact SeqAt.EqAt.int_int q.1 t3 p.1 t1
      | 1, _, _ => exact SeqAt.EqAt.int_int q.2 t4 p.2 t2
    · match j, h1, h2 with
      | 0, _, _ => exact SeqAt.GtAt.int_int q.1 t3 p.1 t1
      | 1, _, _ => exact SeqAt.GtAt.int_int q.2 t4 p.2 t2
  · cases gtI q p
    · rfl
    · rfl
end L2
namespace Mine
open PySem L2 PyProof.Rows
def top (i : Nat) : Stmt := PySem.Challenge.pw_floorcurves_k26_whole_by_ways.main.body.getD i (.Pass ⟨0, 0, 0, 0⟩)
abbrev s_is_whole : Stmt := top 5
theorem sc_is_whole : FnScope ["thing"] ["thing"] (defScope s_is_whole) := ⟨rfl, rfl, rfl, by decide +kernel, rfl, by decide +kernel, by decide +kernel⟩
abbrev s_need_between : Stmt := top 6
theorem sc_need_between : FnScope ["thing", "least", "greatest"] ["thing", "least", "greatest"] (defScope s_need_between) := ⟨rfl, rfl, rfl, by decide +kernel, rfl, by decide +kernel, by decide +kernel⟩
abbrev s_need_narrow : Stmt := top 7
theorem sc_need_narrow : FnScope ["d", "k"] ["d", "k"] (defScope s_need_narrow) := ⟨rfl, rfl, rfl, by decide +kernel, rfl, by decide +kernel, by decide +kernel⟩
abbrev s_need_degree : Stmt := top 8
theorem sc_need_degree : FnScope ["d"] ["d"] (defScope s_need_degree) := ⟨rfl, rfl, rfl, by decide +kernel, rfl, by decide +kernel, by decide +kernel⟩
abbrev s_gathered : Stmt := top 10
theorem sc_gathered : FnScope ["things", "pairs", "standing", "thing", "one", "other", "kept", "left"] ["things", "pairs"] (defScope s_gathered) := ⟨rfl, rfl, rfl, by decide +kernel, rfl, by decide +kernel, by decide +kernel⟩
abbrev s_how_many_sets : Stmt := top 11
theorem sc_how_many_sets : FnScope ["things", "pairs", "standing"] ["things", "pairs"] (defScope s_how_many_sets) := ⟨rfl, rfl, rfl, by decide +kernel, rfl, by decide +kernel, by decide +kernel⟩
abbrev s_points : Stmt := top 13
theorem sc_points : FnScope ["d", "found", "x", "y"] ["d"] (defScope s_points) := ⟨rfl, rfl, rfl, by decide +kernel, rfl, by decide +kernel, by decide +kernel⟩
abbrev s_is_point : Stmt := top 14
theorem sc_is_point : FnScope ["d", "point"] ["d", "point"] (defScope s_is_point) := ⟨rfl, rfl, rfl, by decide +kernel, rfl, by decide +kernel, by decide +kernel⟩
abbrev s_corner : Stmt := top 15
theorem sc_corner : FnScope ["a", "b", "c"] ["a", "b", "c"] (defScope s_corner) := ⟨rfl, rfl, rfl, by decide +kernel, rfl, by decide +kernel, by decide +kernel⟩
abbrev s_upper_edge : Stmt := top 16
theorem sc_upper_edge : FnScope ["d"] ["d"] (defScope s_upper_edge) := ⟨rfl, rfl, rfl, by decide +kernel, rfl, by decide +kernel, by decide +kernel⟩
abbrev s_lower_edge : Stmt := top 17
theorem sc_lower_edge : FnScope ["d", "down"] ["d"] (defScope s_lower_edge) := ⟨rfl, rfl, rfl, by decide +kernel, rfl, by decide +kernel, by decide +kernel⟩
abbrev s_first_turn : Stmt := top 21
theorem sc_first_turn : FnScope ["way", "side", "place"] ["way", "side"] (defScope s_first_turn) := ⟨rfl, rfl, rfl, by decide +kernel, rfl, by decide +kernel, by decide +kernel⟩
abbrev s_steps : Stmt := top 22
theorem sc_steps : FnScope ["d", "way", "side", "place", "a", "b", "c", "found", "facing"] ["d", "way", "side"] (defScope s_steps) := ⟨rfl, rfl, rfl, by decide +kernel, rfl, by decide +kernel, by decide +kernel⟩
abbrev s_piece_worth : Stmt := top 23
theorem sc_piece_worth : FnScope ["piece"] ["piece"] (defScope s_piece_worth) := ⟨rfl, rfl, rfl, by decide +kernel, rfl, by decide +kernel, by decide +kernel⟩
abbrev s_leaving_out : Stmt := top 25
theorem sc_leaving_out : FnScope ["row", "k", "with_first"] ["row", "k"] (defScope s_leaving_out) := ⟨rfl, rfl, rfl, by decide +kernel, rfl, by decide +kernel, by decide +kernel⟩
abbrev s_ways : Stmt := top 26
theorem sc_ways : FnScope ["d", "k", "row"] ["d", "k"] (defScope s_ways) := ⟨rfl, rfl, rfl, by decide +kernel, rfl, by decide +kernel, by decide +kernel⟩
abbrev s_manners : Stmt := top 28
theorem sc_manners : FnScope ["d", "way", "side", "edge", "found", "piece", "further", "rest"] ["d", "way", "side", "edge"] (defScope s_manners) := ⟨rfl, rfl, rfl, by decide +kernel, rfl, by decide +kernel, by decide +kernel⟩
abbrev s_cuttings : Stmt := top 29
theorem sc_cuttings : FnScope ["d", "way", "under", "over", "found", "pieces", "others"] ["d", "way"] (defScope s_cuttings) := ⟨rfl, rfl, rfl, by decide +kernel, rfl, by decide +kernel, by decide +kernel⟩
abbrev s_cut_worth : Stmt := top 30
theorem sc_cut_worth : FnScope ["cutting", "product", "piece"] ["cutting"] (defScope s_cut_worth) := ⟨rfl, rfl, rfl, by decide +kernel, rfl, by decide +kernel, by decide +kernel⟩
abbrev s_sides : Stmt := top 31
theorem sc_sides : FnScope ["piece", "found", "ahead", "point"] ["piece"] (defScope s_sides) := ⟨rfl, rfl, rfl, by decide +kernel, rfl, by decide +kernel, by decide +kernel⟩
abbrev s_threads : Stmt := top 32
theorem sc_threads : FnScope ["cutting", "known", "facing", "piece", "around", "side"] ["cutting"] (defScope s_threads) := ⟨rfl, rfl, rfl, by decide +kernel, rfl, by decide +kernel, by decide +kernel⟩
abbrev s_corner_pieces : Stmt := top 33
theorem sc_corner_pieces : FnScope ["cutting"] ["cutting"] (defScope s_corner_pieces) := ⟨rfl, rfl, rfl, by decide +kernel, rfl, by decide +kernel, by decide +kernel⟩
abbrev s_joined : Stmt := top 34
theorem sc_joined : FnScope ["cutting", "thread_of", "first", "pairs", "piece", "side", "thread"] ["cutting"] (defScope s_joined) := ⟨rfl, rfl, rfl, by decide +kernel, rfl, by decide +kernel, by decide +kernel⟩
abbrev s_cut_parts : Stmt := top 35
theorem sc_cut_parts : FnScope ["cutting"] ["cutting"] (defScope s_cut_parts) := ⟨rfl, rfl, rfl, by decide +kernel, rfl, by decide +kernel, by decide +kernel⟩
abbrev s_whole_by_ways : Stmt := top 36
theorem sc_whole_by_ways : FnScope ["d", "k", "total", "way", "cutting"] ["d", "k"] (defScope s_whole_by_ways) := ⟨rfl, rfl, rfl, by decide +kernel, rfl, by decide +kernel, by decide +kernel⟩
abbrev s__law_cell_at : Stmt := top 38
theorem sc__law_cell_at : FnScope ["_law_script", "_law_k"] ["_law_script", "_law_k"] (defScope s__law_cell_at) := ⟨rfl, rfl, rfl, by decide +kernel, rfl, by decide +kernel, by decide +kernel⟩
abbrev s__law_number : Stmt := top 39
theorem sc__law_number : FnScope ["_law_script", "_law_k", "_law_cell", "_law_one", "_law_other"] ["_law_script", "_law_k"] (defScope s__law_number) := ⟨rfl, rfl, rfl, by decide +kernel, rfl, by decide +kernel, by decide +kernel⟩
abbrev s__law_sides : Stmt := top 40
theorem sc__law_sides : FnScope ["_law_piece", "_law_some", "_law_j", "_law_one", "_law_other"] ["_law_piece"] (defScope s__law_sides) := ⟨rfl, rfl, rfl, by decide +kernel, rfl, by decide +kernel, by decide +kernel⟩
abbrev s__law_end : Stmt := top 41
theorem sc__law_end : FnScope ["_law_around", "_law_place", "_law_side", "_law_turn", "_law_nexts"] ["_law_around", "_law_place", "_law_side"] (defScope s__law_end) := ⟨rfl, rfl, rfl, by decide +kernel, rfl, by decide +kernel, by decide +kernel⟩
abbrev s__law_joined : Stmt := top 42
theorem sc__law_joined : FnScope ["_law_pieces", "_law_around", "_law_pairs", "_law_place", "_law_side", "_law_end_here"] ["_law_pieces"] (defScope s__law_joined) := ⟨rfl, rfl, rfl, by decide +kernel, rfl, by decide +kernel, by decide +kernel⟩
abbrev s__law_parts : Stmt := top 43
theorem sc__law_parts : FnScope ["_law_pieces", "_law_pairs", "_law_heads", "_law_one", "_law_other", "_law_old", "_law_new", "_law_found", "_law_place"] ["_law_pieces", "_law_pairs"] (defScope s__law_parts) := ⟨rfl, rfl, rfl, by decide +kernel, rfl, by decide +kernel, by decide +kernel⟩
abbrev s__law_product : Stmt := top 44
theorem sc__law_product : FnScope ["_law_pieces", "_law_due_here", "_law_piece", "_law_a", "_law_b", "_law_c", "_law_one"] ["_law_pieces"] (defScope s__law_product) := ⟨rfl, rfl, rfl, by decide +kernel, rfl, by decide +kernel, by decide +kernel⟩
abbrev s__law_ways : Stmt := top 45
theorem sc__law_ways : FnScope ["_law_d", "_law_k", "_law_some", "_law_x", "_law_y", "_law_rows", "_law_place", "_law_more", "_law_row"] ["_law_d", "_law_k"] (defScope s__law_ways) := ⟨rfl, rfl, rfl, by decide +kernel, rfl, by decide +kernel, by decide +kernel⟩
abbrev s__law_due : Stmt := top 46
theorem sc__law_due : FnScope ["_law_d", "_law_k", "_law_due_here", "_law_way", "_law_pieces"] ["_law_d", "_law_k"] (defScope s__law_due) := ⟨rfl, rfl, rfl, by decide +kernel, rfl, by decide +kernel, by decide +kernel⟩
abbrev s__law_refused : Stmt := top 47
theorem sc__law_refused : FnScope ["_law_d", "_law_k", "e"] ["_law_d", "_law_k"] (defScope s__law_refused) := ⟨rfl, rfl, rfl, by decide +kernel, rfl, by decide +kernel, by decide +kernel⟩
abbrev s_law : Stmt := top 48
theorem sc_law : FnScope ["_law_script", "_law_pairs", "_law_d", "_law_k", "_law_found", "_law_x", "_law_beyond", "_law_one", "_law_other"] ["_law_script"] (defScope s_law) := ⟨rfl, rfl, rfl, by decide +kernel, rfl, by decide +kernel, by decide +kernel⟩
set_option genInjectivity false
set_option genSizeOfSpec false
structure Fns (K : PySem.W.Frag) (mg : Str → Option Value) where
  f_is_whole : Addr
  d_is_whole : FuncData
  f_need_between : Addr
  d_need_between : FuncData
  f_need_narrow : Addr
  d_need_narrow : FuncData
  f_need_degree : Addr
  d_need_degree : FuncData
  f_gathered : Addr
  d_gathered : FuncData
  f_how_many_sets : Addr
  d_how_many_sets : FuncData
  f_points : Addr
  d_points : FuncData
  f_is_point : Addr
  d_is_point : FuncData
  f_corner : Addr
  d_corner : FuncData
  f_upper_edge : Addr
  d_upper_edge : FuncData
  f_lower_edge : Addr
  d_lower_edge : FuncData
  f_first_turn : Addr
  d_first_turn : FuncData
  f_steps : Addr
  d_steps : FuncData
  f_piece_worth : Addr
  d_piece_worth : FuncData
  f_leaving_out : Addr
  d_leaving_out : FuncData
  f_ways : Addr
  d_ways : FuncData
  f_manners : Addr
  d_manners : FuncData
  f_cuttings : Addr
  d_cuttings : FuncData
  f_cut_worth : Addr
  d_cut_worth : FuncData
  f_sides : Addr
  d_sides : FuncData
  f_threads : Addr
  d_threads : FuncData
  f_corner_pieces : Addr
  d_corner_pieces : FuncData
  f_joined : Addr
  d_joined : FuncData
  f_cut_parts : Addr
  d_cut_parts : FuncData
  f_whole_by_ways : Addr
  d_whole_by_ways : FuncData
  f__law_cell_at : Addr
  d__law_cell_at : FuncData
  f__law_number : Addr
  d__law_number : FuncData
  f__law_sides : Addr
  d__law_sides : FuncData
  f__law_end : Addr
  d__law_end : FuncData
  f__law_joined : Addr
  d__law_joined : FuncData
  f__law_parts : Addr
  d__law_parts : FuncData
  f__law_product : Addr
  d__law_product : FuncData
  f__law_ways : Addr
  d__law_ways : FuncData
  f__law_due : Addr
  d__law_due : FuncData
  f__law_refused : Addr
  d__law_refused : FuncData
  f_law : Addr
  d_law : FuncData
  F_is_whole : Fun K "is_whole" "is_whole" s_is_whole f_is_whole d_is_whole
  B_is_whole : Binds K d_is_whole ["thing"] []
  m_is_whole : mg "is_whole" = some (.ref f_is_whole)
  F_need_between : Fun K "need_between" "need_between" s_need_between f_need_between d_need_between
  B_need_between : Binds K d_need_between ["thing", "least", "greatest"] []
  m_need_between : mg "need_between" = some (.ref f_need_between)
  F_need_narrow : Fun K "need_narrow" "need_narrow" s_need_narrow f_need_narrow d_need_narrow
  B_need_narrow : Binds K d_need_narrow ["d", "k"] []
  m_need_narrow : mg "need_narrow" = some (.ref f_need_narrow)
  F_need_degree : Fun K "need_degree" "need_degree" s_need_degree f_need_degree d_need_degree
  B_need_degree : Binds K d_need_degree ["d"] []
  m_need_degree : mg "need_degree" = some (.ref f_need_degree)
  F_gathered : Fun K "gathered" "gathered" s_gathered f_gathered d_gathered
  B_gathered : Binds K d_gathered ["things", "pairs"] []
  m_gathered : mg "gathered" = some (.ref f_gathered)
  F_how_many_sets : Fun K "how_many_sets" "how_many_sets" s_how_many_sets f_how_many_sets d_how_many_sets
  B_how_many_sets : Binds K d_how_many_sets ["things", "pairs"] []
  m_how_many_sets : mg "how_many_sets" = some (.ref f_how_many_sets)
  F_points : Fun K "points" "points" s_points f_points d_points
  B_points : Binds K d_points ["d"] []
  m_points : mg "points" = some (.ref f_points)
  F_is_point : Fun K "is_point" "is_point" s_is_point f_is_point d_is_point
  B_is_point : Binds K d_is_point ["d", "point"] []
  m_is_point : mg "is_point" = some (.ref f_is_point)
  F_corner : Fun K "corner" "corner" s_corner f_corner d_corner
  B_corner : Binds K d_corner ["a", "b", "c"] []
  m_corner : mg "corner" = some (.ref f_corner)
  F_upper_edge : Fun K "upper_edge" "upper_edge" s_upper_edge f_upper_edge d_upper_edge
  B_upper_edge : Binds K d_upper_edge ["d"] []
  m_upper_edge : mg "upper_edge" = some (.ref f_upper_edge)
  F_lower_edge : Fun K "lower_edge" "lower_edge" s_lower_edge f_lower_edge d_lower_edge
  B_lower_edge : Binds K d_lower_edge ["d"] []
  m_lower_edge : mg "lower_edge" = some (.ref f_lower_edge)
  F_first_turn : Fun K "first_turn" "first_turn" s_first_turn f_first_turn d_first_turn
  B_first_turn : Binds K d_first_turn ["way", "side"] []
  m_first_turn : mg "first_turn" = some (.ref f_first_turn)
  F_steps : Fun K "steps" "steps" s_steps f_steps d_steps
  B_steps : Binds K d_steps ["d", "way", "side"] []
  m_steps : mg "steps" = some (.ref f_steps)
  F_piece_worth : Fun K "piece_worth" "piece_worth" s_piece_worth f_piece_worth d_piece_worth
  B_piece_worth : Binds K d_piece_worth ["piece"] []
  m_piece_worth : mg "piece_worth" = some (.ref f_piece_worth)
  F_leaving_out : Fun K "leaving_out" "leaving_out" s_leaving_out f_leaving_out d_leaving_out
  B_leaving_out : Binds K d_leaving_out ["row", "k"] []
  m_leaving_out : mg "leaving_out" = some (.ref f_leaving_out)
  F_ways : Fun K "ways" "ways" s_ways f_ways d_ways
  B_ways : Binds K d_ways ["d", "k"] []
  m_ways : mg "ways" = some (.ref f_ways)
  F_manners : Fun K "manners" "manners" s_manners f_manners d_manners
  B_manners : Binds K d_manners ["d", "way", "side", "edge"] []
  m_manners : mg "manners" = some (.ref f_manners)
  F_cuttings : Fun K "cuttings" "cuttings" s_cuttings f_cuttings d_cuttings
  B_cuttings : Binds K d_cuttings ["d", "way"] []
  m_cuttings : mg "cuttings" = some (.ref f_cuttings)
  F_cut_worth : Fun K "cut_worth" "cut_worth" s_cut_worth f_cut_worth d_cut_worth
  B_cut_worth : Binds K d_cut_worth ["cutting"] []
  m_cut_worth : mg "cut_worth" = some (.ref f_cut_worth)
  F_sides : Fun K "sides" "sides" s_sides f_sides d_sides
  B_sides : Binds K d_sides ["piece"] []
  m_sides : mg "sides" = some (.ref f_sides)
  F_threads : Fun K "threads" "threads" s_threads f_threads d_threads
  B_threads : Binds K d_threads ["cutting"] []
  m_threads : mg "threads" = some (.ref f_threads)
  F_corner_pieces : Fun K "corner_pieces" "corner_pieces" s_corner_pieces f_corner_pieces d_corner_pieces
  B_corner_pieces : Binds K d_corner_pieces ["cutting"] []
  m_corner_pieces : mg "corner_pieces" = some (.ref f_corner_pieces)
  F_joined : Fun K "joined" "joined" s_joined f_joined d_joined
  B_joined : Binds K d_joined ["cutting"] []
  m_joined : mg "joined" = some (.ref f_joined)
  F_cut_parts : Fun K "cut_parts" "cut_parts" s_cut_parts f_cut_parts d_cut_parts
  B_cut_parts : Binds K d_cut_parts ["cutting"] []
  m_cut_parts : mg "cut_parts" = some (.ref f_cut_parts)
  F_whole_by_ways : Fun K "whole_by_ways" "whole_by_ways" s_whole_by_ways f_whole_by_ways d_whole_by_ways
  B_whole_by_ways : Binds K d_whole_by_ways ["d", "k"] []
  m_whole_by_ways : mg "whole_by_ways" = some (.ref f_whole_by_ways)
  F__law_cell_at : Fun K "_law_cell_at" "_law_cell_at" s__law_cell_at f__law_cell_at d__law_cell_at
  B__law_cell_at : Binds K d__law_cell_at ["_law_script", "_law_k"] []
  m__law_cell_at : mg "_law_cell_at" = some (.ref f__law_cell_at)
  F__law_number : Fun K "_law_number" "_law_number" s__law_number f__law_number d__law_number
  B__law_number : Binds K d__law_number ["_law_script", "_law_k"] []
  m__law_number : mg "_law_number" = some (.ref f__law_number)
  F__law_sides : Fun K "_law_sides" "_law_sides" s__law_sides f__law_sides d__law_sides
  B__law_sides : Binds K d__law_sides ["_law_piece"] []
  m__law_sides : mg "_law_sides" = some (.ref f__law_sides)
  F__law_end : Fun K "_law_end" "_law_end" s__law_end f__law_end d__law_end
  B__law_end : Binds K d__law_end ["_law_around", "_law_place", "_law_side"] []
  m__law_end : mg "_law_end" = some (.ref f__law_end)
  F__law_joined : Fun K "_law_joined" "_law_joined" s__law_joined f__law_joined d__law_joined
  B__law_joined : Binds K d__law_joined ["_law_pieces"] []
  m__law_joined : mg "_law_joined" = some (.ref f__law_joined)
  F__law_parts : Fun K "_law_parts" "_law_parts" s__law_parts f__law_parts d__law_parts
  B__law_parts : Binds K d__law_parts ["_law_pieces", "_law_pairs"] []
  m__law_parts : mg "_law_parts" = some (.ref f__law_parts)
  F__law_product : Fun K "_law_product" "_law_product" s__law_product f__law_product d__law_product
  B__law_product : Binds K d__law_product ["_law_pieces"] []
  m__law_product : mg "_law_product" = some (.ref f__law_product)
  F__law_ways : Fun K "_law_ways" "_law_ways" s__law_ways f__law_ways d__law_ways
  B__law_ways : Binds K d__law_ways ["_law_d", "_law_k"] []
  m__law_ways : mg "_law_ways" = some (.ref f__law_ways)
  F__law_due : Fun K "_law_due" "_law_due" s__law_due f__law_due d__law_due
  B__law_due : Binds K d__law_due ["_law_d", "_law_k"] []
  m__law_due : mg "_law_due" = some (.ref f__law_due)
  F__law_refused : Fun K "_law_refused" "_law_refused" s__law_refused f__law_refused d__law_refused
  B__law_refused : Binds K d__law_refused ["_law_d", "_law_k"] []
  m__law_refused : mg "_law_refused" = some (.ref f__law_refused)
  F_law : Fun K "law" "law" s_law f_law d_law
  B_law : Binds K d_law ["_law_script"] []
  m_law : mg "law" = some (.ref f_law)
  n_isinstance : mg "isinstance" = none
  n_int : mg "int" = none
  n_bool : mg "bool" = none
  n_len : mg "len" = none
  n_range : mg "range" = none
  n_abs : mg "abs" = none
  n_list : mg "list" = none
  n_sorted : mg "sorted" = none
  n_min : mg "min" = none
  n_max : mg "max" = none
  n_ValueError : mg "ValueError" = none
  n_str : mg "str" = none
  k_LEFT : Tok
  m_LEFT : mg "LEFT" = some (.int (1) k_LEFT)
  k_RIGHT : Tok
  m_RIGHT : mg "RIGHT" = some (.int (-1) k_RIGHT)
  a_NARROW : Addr
  m_NARROW : mg "NARROW" = some (.ref a_NARROW)
  D_NARROW : dtabIn K a_NARROW [(1, 6), (2, 6), (3, 6), (4, 2)] = true
  c_NoBound : Addr
  m_NoBound : mg "NoBound" = some (.ref c_NoBound)
  x_NoBound : PySem.W.excIn K c_NoBound bmV "ValueError.__new__" = true
  X_NoBound : XC K c_NoBound
  e_NoBound_NoBound : PySem.W.exmOne K (.ref c_NoBound) (.ref c_NoBound) = some true
  k_NoBound_ValueError : PySem.W.kitOne K (.ref c_NoBound) (.type "ValueError") = some true
/-! lifts and what they leave at the floors -/
abbrev Lf := Int × Int × Int
def leaves (ps : List Lf) (f : Int) : Int := ((ps.filter fun p => decide (p.1 = f)).map (·.2.2)).sum
def back (xs : List Int) : Lf := (xs.getD 0 0, xs.getD 1 0, xs.getD 2 0)
def TupS (H H' : Hp) : Prop := ∀ a xs, H a = some (.tup xs) → H' a = some (.tup xs)
theorem TupS.of_same {H H' : Hp} (s : Same H H') : TupS H H' := fun a xs e => s _ _ e
theorem TupS.trans {H H' H'' : Hp} (s : TupS H H') (t : TupS H' H'') : TupS H H'' := fun a xs e => t _ _ (s _ _ e)
theorem TupS.upd {H : Hp} {b : Addr} {zs ys : List V} (hb : H b = some (.lst zs)) : TupS H (L2.upd H b (.lst ys)) := fun a xs e => by
  rw [upd_ne (by rintro rfl; rw [hb] at e; cases e)]; exact e
/-! lists of lifts by < -/
/-! without the lists of an earlier heap -/
def nw (H0 H : Hp) : Hp := fun b => match H0 b with | some (.lst _) => none | _ => H b
theorem nw_same {H0 H : Hp} : Same (nw H0 H) H := fun b o e => by
  unfold nw at e
  split at e
  · cases e
  · exact e
theorem nw_mono {H0 H H' : Hp} (s : Same H H') : Same (nw H0 H) (nw H0 H') := fun b o e => by
  unfold nw at e ⊢
  split at e
  · cases e
  · exact s _ _ e
/-- of a later heap less is left -/
theorem nw_later {H0 H1 H : Hp} (s : Same H0 H1) : Same (nw H1 H) (nw H0 H) := fun b o e => by
  unfold nw at e ⊢
  split at e
  · cases e
  · rename_i h
    split
    · rename_i xs h0
      exact absurd (s _ _ h0) (h xs)
    · exact e
theorem nw_hid {H0 H1 H : Hp} {a : Addr} {xs : List V} (s : Same H0 H1) (ha : H1 a = some (.lst xs)) : Same (nw H1 H) (hid (nw H0 H) a) := fun b o e => by
  have hb : b ≠ a := by
    rintro rfl
    unfold nw at e
    rw [ha] at e
    cases e
  rw [hid_at hb]
  exact nw_later s b o e
theorem nw_new {H0 H : Hp} {a : Addr} (h : H0 a = none) : nw H0 H a = H a := by unfold nw; rw [h]
theorem nw_tup {H0 H : Hp} {a : Addr} {xs : List V} (s : Same H0 H) (h : H a = some (.tup xs)) : nw H0 H a = some (.tup xs) := by
  unfold nw
  split
  · rename_i ys e
    rw [s _ _ e] at h
    cases h
  · exact h
/-- a list that grows, since H0, of things made since H0 -/
def Acc (H0 H : Hp) (a : Addr) (xs : List D) : Prop := ∃ vs, H a = some (.lst vs) ∧ Iss (hid (nw H0 H) a) xs vs
theorem Acc.start {H0 H : Hp} {a : Addr} (h : H a = some (.lst [])) : Acc H0 H a [] := ⟨[], h, iss_nil⟩
theorem Acc.mono {H0 H H' : Hp} {a : Addr} {xs : List D} (s : Same H H') (g : Acc H0 H a xs) : Acc H0 H' a xs := let ⟨vs, e, h⟩ := g; ⟨vs, s _ _ e, h.mono (hid_mono (nw_mono s))⟩
theorem hid_nw_upd {H0 H : Hp} {a : Addr} {o : HO} : hid (nw H0 (upd H a o)) a = hid (nw H0 H) a := by
  funext b
  unfold hid
  split
  · rfl
  · rename_i h
    unfold nw
    rw [upd_ne h]
theorem Acc.add {H0 H1 H2 : Hp} {a : Addr} {xs : List D} {x : D} {vs : List V} {v : V} (s01 : Same H0 H1) (s12 : Same H1 H2) (ha : H1 a = some (.lst vs)) (h : Iss (hid (nw H0 H1) a) xs vs) (k : Is (nw H1 H2) x v) : Acc H0 (upd H2 a (.lst (vs ++ [v]))) a (xs ++ [x]) :=
  ⟨vs ++ [v], upd_same, by rw [hid_nw_upd]; exact (h.mono (hid_mono (nw_mono s12))).append (iss_cons (k.mono (nw_hid s01 ha)) iss_nil)⟩
theorem Acc.is {H0 H : Hp} {a : Addr} {xs : List D} (n : H0 a = none) (g : Acc H0 H a xs) : Is (nw H0 H) (.l xs) (.ref a) := let ⟨_, e, h⟩ := g; is_l (by rw [nw_new n]; exact e) (h.mono hid_same)

def rowP (d x n : Nat) : List Pt := (List.range n).map fun j : Nat => ((x : Int), (d : Int) - (x : Int) - (j : Int))
def ptsTo (d n : Nat) : List Pt := (List.range n).flatMap fun x => rowP d x (d + 1 - x)
def ptsOf (d : Nat) : List Pt := ptsTo d (d + 1)
theorem ptsTo_succ (d n : Nat) : ptsTo d (n + 1) = ptsTo d n ++ rowP d n (d + 1 - n) := by unfold ptsTo; rw [List.range_succ, List.flatMap_append, List.flatMap_singleton]
theorem rowP_succ (d x n : Nat) : rowP d x (n + 1) = rowP d x n ++ [((x : Int), (d : Int) - (x : Int) - (n : Int))] := by unfold rowP; rw [List.range_succ, List.map_append]; rfl
theorem rowP_length (d x n : Nat) : (rowP d x n).length = n := by simp [rowP]
theorem ptsTo_len (d n : Nat) (hn : n ≤ d + 1) (hd : d ≤ 5) : (ptsTo d n).length ≤ 36 := by
  have : ∀ m, m ≤ 6 → (ptsTo d m).length ≤ 6 * m := fun m hm => by
    induction m with
    | zero => simp [ptsTo]
    | succ m ih =>
      have := ih (by omega)
      rw [ptsTo_succ, List.length_append, rowP_length]
      omega
  have := this n (by omega)
  omega
/-! ways: what is left out, in all manners -/
def lvA {α : Type} : List α → Nat → List (List α)
  | row, 0 => [row]
  | [], _ + 1 => []
  | x :: row, k + 1 => (lvA row (k + 1)).map (x :: ·) ++ lvA row k
theorem lv_none {α : Type} : ∀ (row : List α) (k : Nat), row.length < k → lvA row k = []
  | _, 0, h => by omega
  | [], _ + 1, _ => rfl
  | x :: row, k + 1, h => by
    simp only [List.length_cons] at h
    rw [lvA, lv_none row (k + 1) (by omega), lv_none row k (by omega)]
    rfl
theorem lv_len {α : Type} : ∀ (row : List α) (k : Nat), (lvA row k).length ≤ 2 ^ row.length
  | [], 0 => by simp [lvA]
  | [], _ + 1 => by simp [lvA]
  | x :: row, 0 => by
    rw [lvA]
    exact Nat.one_le_two_pow
  | x :: row, k + 1 => by
    rw [lvA, List.length_append, List.length_map, List.length_cons, Nat.pow_succ]
    have h1 := lv_len row (k + 1)
    have h2 := lv_len row k
    omega
theorem lv_item {α : Type} : ∀ (row : List α) (k : Nat) (ws : List α), ws ∈ lvA row k → ws.length ≤ row.length
  | row, 0, ws, h => by
    have : ws = row := by cases row <;> simpa [lvA] using h
    rw [this]
    exact Nat.le_refl _
  | [], _ + 1, ws, h => by simp [lvA] at h
  | x :: row, k + 1, ws, h => by
    rw [lvA] at h
    rcases List.mem_append.mp h with q | q
    · obtain ⟨us, hu, rfl⟩ := List.mem_map.mp q
      have := lv_item row (k + 1) us hu
      simp
      omega
    · have := lv_item row k ws q
      simp
      omega
/-! the ways of d and k, and what the law asks of them -/
def midP (d : Nat) : List Pt := ((ptsOf d).drop 1).dropLast
def p0 (d : Nat) : Pt := (0, (d : Int))
def pl (d : Nat) : Pt := ((d : Int), 0)
def rawW (d k : Nat) : List (List Pt) := (lvA (midP d) k).map fun w => [p0 d] ++ w ++ [pl d]
def cW (L : List (List Pt)) (i j : Nat) : Option Bool := L[i]?.bind fun x => L[j]?.map fun y => ltPts x y
def oW (d k : Nat) : Option (Array Nat) := sAll (cW (rawW d k)) (rawW d k).length
def sW (d k : Nat) : List (List Pt) := if (rawW d k).length < 2 then rawW d k else ((oW d k).getD #[]).toList.map fun i => (rawW d k).getD i []
def pascN (row : List Int) : List Int := [1] ++ ((List.range (row.length - 1)).map fun j => row.getD j 0 + row.getD (j + 1) 0) ++ [1]
def pasc : Nat → List Int
  | 0 => [1]
  | n + 1 => pascN (pasc n)
def choF (n k : Nat) : Int := if (pasc n).length ≤ k then 0 else (pasc n).getD k 0
def plc (row : List Pt) (p : Pt) : Nat := row.idxOf p
def risB (row : List Pt) : List Pt → Int → Bool
  | [], _ => true
  | p :: w, m => row.contains p && decide (m < (plc row p : Int)) && risB row w (plc row p)
def wayB (d k : Nat) (w : List Pt) : Bool := decide (w.length + k = (ptsOf d).length) && decide (w[0]? = some (p0 d)) && decide (w[w.length - 1]? = some (pl d)) && risB (ptsOf d) w (-1)
def ltsB : List (List Pt) → Bool
  | x :: y :: r => ltPts x y && ltsB (y :: r)
  | _ => true
def restB (d k : Nat) (S : List (List Pt)) : Bool := decide ((rawW d k).length ≤ 1000) && decide ((S.length : Int) = choF ((ptsOf d).length - 2) k) && S.all (wayB d k) && ltsB S && (rawW d k).all fun w => S.contains w
def Narrow (d k : Nat) : Prop := 1 ≤ d ∧ ((d ≤ 3 ∧ k ≤ 6) ∨ (d = 4 ∧ k ≤ 2))

def Lists (H0 H : Hp) (W : List (List V)) (vs : List V) : Prop := vs.length = W.length ∧ ∀ (i : Nat) ws, W[i]? = some ws → ∃ a, vs[i]? = some (.ref a) ∧ H0 a = none ∧ H a = some (.lst ws)
theorem Lists.nil {H0 H : Hp} : Lists H0 H [] [] := ⟨rfl, fun i ws h => by simp at h⟩
theorem Lists.mono {H0 H0' H H' : Hp} {W : List (List V)} {vs : List V} (h : Lists H0 H W vs) (s0 : Same H0' H0) (s : Same H H') : Lists H0' H' W vs := ⟨h.1, fun i ws e => by
  obtain ⟨a, e1, e2, e3⟩ := h.2 i ws e
  exact ⟨a, e1, s0.free e2, s _ _ e3⟩⟩
theorem Lists.append {H0 H : Hp} {W W' : List (List V)} {vs vs' : List V} (h : Lists H0 H W vs) (h' : Lists H0 H W' vs') : Lists H0 H (W ++ W') (vs ++ vs') := by
  refine ⟨by rw [List.length_append, List.length_append, h.1, h'.1], fun i ws e => ?_⟩
  rcases Nat.lt_or_ge i W.length with q | q
  · rw [List.getElem?_append_left q] at e
    rw [List.getElem?_append_left (by rw [h.1]; exact q)]
    exact h.2 i ws e
  · rw [List.getElem?_append_right q] at e
    rw [List.getElem?_append_right (by rw [h.1]; exact q), h.1]
    exact h'.2 _ ws e
theorem Lists.one {H0 H : Hp} {a : Addr} {ws : List V} (h0 : H0 a = none) (h : H a = some (.lst ws)) : Lists H0 H [ws] [.ref a] := ⟨rfl, fun i us e => by
  match i, e with
  | 0, e => cases e; exact ⟨a, rfl, h0, h⟩
  | i + 1, e => simp at e⟩
def upE (d : Nat) : List Pt := (List.range (d + 1)).map fun i : Nat => ((i : Int), (d : Int) - (i : Int))
def loE (d : Nat) : List Pt := ((List.range (d + 1)).map fun i : Nat => ((0 : Int), (d : Int) - (i : Int))) ++ (List.range d).map fun i : Nat => ((1 : Int) + (i : Int), (0 : Int))
abbrev Pc := List Pt
def zP : Pt := (0, 0)
def crn (a b c : Pt) : Int := (b.1 - a.1) * (c.2 - b.2) - (b.2 - a.2) * (c.1 - b.1)
def turnF (ps : List Pt) (side : Int) : Option Nat := ((List.range (ps.length - 2)).find? fun i => decide (crn (ps.getD i zP) (ps.getD (i + 1) zP) (ps.getD (i + 2) zP) * side > 0)).map (· + 1)
def facF (a b c : Pt) : Pt := (a.1 + c.1 - b.1, a.2 + c.2 - b.2)
def isPt (d : Nat) (p : Pt) : Bool := decide (p.1 ≥ 0) && (decide (p.2 ≥ 0) && decide (p.1 + p.2 ≤ (d : Int)))
def stepsF (d : Nat) (ps : List Pt) (side : Int) : List (Pc × List Pt) := match turnF ps side with
  | none => []
  | some p => [([ps.getD (p - 1) zP, ps.getD p zP, ps.getD (p + 1) zP], ps.take p ++ ps.drop (p + 1))] ++
    if isPt d (facF (ps.getD (p - 1) zP) (ps.getD p zP) (ps.getD (p + 1) zP)) = true then [([ps.getD (p - 1) zP, ps.getD p zP, ps.getD (p + 1) zP, facF (ps.getD (p - 1) zP) (ps.getD p zP) (ps.getD (p + 1) zP)], ps.take p ++ [facF (ps.getD (p - 1) zP) (ps.getD p zP) (ps.getD (p + 1) zP)] ++ ps.drop (p + 1))] else []
def manF : Nat → Nat → List Pt → Int → List Pt → List (List Pc)
  | 0, _, _, _, _ => []
  | n + 1, d, ps, s, e => if ps = e then [[]] else (stepsF d ps s).flatMap fun x => (manF n d x.2 s e).map (x.1 :: ·)
def inB (p : Pt) : Bool := decide (-20 ≤ p.1) && decide (p.1 ≤ 20) && decide (-20 ≤ p.2) && decide (p.2 ≤ 20)
def psB (ps : List Pt) : Bool := ps.all inB && decide (ps.length ≤ 30)
def okM : Nat → Nat → List Pt → Int → List Pt → Bool
  | 0, _, _, _, _ => false
  | n + 1, d, ps, s, e => psB ps && (decide (ps = e) || (stepsF d ps s).all fun x => okM n d x.2 s e) && decide ((manF (n + 1) d ps s e).length ≤ 100) && (manF (n + 1) d ps s e).all fun x => decide (x.length ≤ 100)
def ovF (d : Nat) (ps : List Pt) : List (List Pc) := if manF 30 d ps (-1) (loE d) = [] then [] else manF 30 d ps 1 (upE d)
def rawC (d : Nat) (ps : List Pt) : List (List Pc) := (ovF d ps).flatMap fun x => (manF 30 d ps (-1) (loE d)).map fun y => x ++ y
def ltCut : List Pc → List Pc → Bool
  | _, [] => false
  | [], _ :: _ => true
  | x :: xs, y :: ys => if x = y then ltCut xs ys else ltPts x y
def pcD (c : Pc) : D := .t (c.map pt)
def cutD (cs : List Pc) : D := .l (cs.map pcD)
theorem pcD_inj {a b : Pc} (h : pcD a = pcD b) : a = b := by
  unfold pcD at h
  exact map_pt_inj (D.t.inj h)
theorem eqr_pc {K : PySem.W.Frag} {H : Hp} {a b : Pc} {v w : V} (h : Is H (pcD a) v) (k : Is H (pcD b) w) : EqR K H 2 v w (decide (a = b)) := by
  have e := h.eqr (K := K) (n := 2) (by have := deps_pts (ps := a); unfold pcD dep; omega) (by unfold pcD Kin; exact kins_pts) k
  have : eqD (pcD a) (pcD b) = decide (a = b) := by
    by_cases c : a = b
    · rw [c, eqD_self]; simp
    · rw [eqD_ne fun z => c (pcD_inj z)]; simp [c]
  rwa [this] at e
theorem ltr_pc {K : PySem.W.Frag} {H : Hp} {a b : Pc} {v w : V} (h : Is H (pcD a) v) (k : Is H (pcD b) w) : LtR K H 2 v w (ltPts a b) := by
  obtain ⟨x, vs, rfl, ha, h⟩ := of_t h
  obtain ⟨y, ws, rfl, hb, k⟩ := of_t k
  obtain ⟨e1, e2⟩ := pts_parts (K := K) h k
  have e := LtR.tuples (K := K) (H := H) (d := 1) (a := x) (b := y) _ _ (SqT.of ha) (SqT.of hb) e1 e2
  rw [h.length, k.length, List.length_map, List.length_map, lex_pts a b _ 0 (Nat.sub_zero _) (Nat.zero_le _), List.drop_zero, List.drop_zero] at e
  exact e
theorem lex_cut (p q : List Pc) : ∀ (k i : Nat), min p.length q.length - i = k → i ≤ min p.length q.length → SeqAt.lex (fun j => decide (p.getD j [] = q.getD j [])) (fun j => ltPts (p.getD j []) (q.getD j [])) p.length q.length k i = ltCut (p.drop i) (q.drop i)
  | 0, i, hk, hi => by
    rw [SeqAt.lex]
    rcases (by omega : q.length = i ∨ (p.length = i ∧ i < q.length)) with e | ⟨e, e2⟩
    · rw [List.drop_of_length_le (l := q) (by omega)]
      have : ¬ p.length < q.length := by omega
      cases p.drop i <;> simp [ltCut, this]
    · rw [List.drop_of_length_le (l := p) (by omega), List.drop_eq_getElem_cons e2]
      have : p.length < q.length := by omega
      simp [ltCut, this]
  | k + 1, i, hk, hi => by
    have h1 : i < p.length := by omega
    have h2 : i < q.length := by omega
    have g1 : p.getD i [] = p[i] := by simp [List.getD, h1]
    have g2 : q.getD i [] = q[i] := by simp [List.getD, h2]
    rw [SeqAt.lex, List.drop_eq_getElem_cons h1, List.drop_eq_getElem_cons h2, ltCut, g1, g2]
    by_cases e : p[i] = q[i]
    · rw [if_pos (decide_eq_true e), if_pos e]
      exact lex_cut p q k (i + 1) (by omega) (by omega)
    · rw [if_neg (by simpa using e), if_neg e]
theorem cut_parts {K : PySem.W.Frag} {H : Hp} {p q : List Pc} {vs ws : List V} (h : Iss H (p.map pcD) vs) (k : Iss H (q.map pcD) ws) :
    (∀ (j : Nat) x y, vs[j]? = some x → ws[j]? = some y → EqR K H 2 x y (decide (p.getD j [] = q.getD j []))) ∧ (∀ (j : Nat) x y, vs[j]? = some x → ws[j]? = some y → decide (p.getD j [] = q.getD j []) = false → LtR K H 2 x y (ltPts (p.getD j []) (q.getD j []))) := by
  have go : ∀ (j : Nat) x y, vs[j]? = some x → ws[j]? = some y → Is H (pcD (p.getD j [])) x ∧ Is H (pcD (q.getD j [])) y := fun j x y hx hy => by
    obtain ⟨d, hd, h1⟩ := h.of_get hx
    obtain ⟨e, he, h2⟩ := k.of_get hy
    rw [List.getElem?_map] at hd he
    obtain ⟨d', hd', rfl⟩ := Option.map_eq_some_iff.mp hd
    obtain ⟨e', he', rfl⟩ := Option.map_eq_some_iff.mp he
    rw [List.getD, hd', List.getD, he']
    exact ⟨h1, h2⟩
  exact ⟨fun j x y hx hy => eqr_pc (go j x y hx hy).1 (go j x y hx hy).2, fun j x y hx hy _ => ltr_pc (go j x y hx hy).1 (go j x y hx hy).2⟩
theorem ask_cut {K : PySem.W.Frag} {H : Hp} {p q : List Pc} {v w : V} (h : Is H (cutD p) v) (k : Is H (cutD q) w) : Ask K H v w (ltCut p q) := by
  obtain ⟨a, vs, rfl, ha, h⟩ := of_l h
  obtain ⟨b, ws, rfl, hb, k⟩ := of_l k
  obtain ⟨e1, e2⟩ := cut_parts (K := K) h k
  refine ⟨a, b, vs, ws, 2, _, _, rfl, rfl, SqL.of ha, SqL.of hb, by decide, e1, e2, ?_⟩
  rw [h.length, k.length, List.length_map, List.length_map, lex_cut p q _ 0 (Nat.sub_zero _) (Nat.zero_le _), List.drop_zero, List.drop_zero]
theorem iss_pickD {α : Type} {f : α → D} (z : α) {H : Hp} {W : List α} {vs : List V} (h : Iss H (W.map f) vs) : ∀ (l : List Nat), (∀ i ∈ l, i < W.length) → Iss H ((l.map fun i => W.getD i z).map f) (l.map fun i => vs.getD i .non)
  | [], _ => iss_nil
  | i :: l, hl => by
    have hi : i < W.length := hl i (by simp)
    have hr : i < vs.length := by rw [h.length, List.length_map]; exact hi
    refine iss_cons ?_ (iss_pickD z h l fun j hj => hl j (by simp [hj]))
    obtain ⟨d, hd, h1⟩ := h.of_get (List.getElem?_eq_getElem hr)
    rw [List.getElem?_map, List.getElem?_eq_getElem hi] at hd
    cases hd
    show Is H (f (W.getD i z)) (vs.getD i .non)
    rw [List.getD_eq_getElem?_getD, List.getD_eq_getElem?_getD, List.getElem?_eq_getElem hi, List.getElem?_eq_getElem hr]
    exact h1
theorem ts_pt {H H' : Hp} (t : TupS H H') {p : Pt} {v : V} (h : Is H (pt p) v) : Is H' (pt p) v := by
  obtain ⟨a, rfl, ha⟩ := of_pt h
  exact is_pt (t _ _ ha)
theorem ts_pts {H H' : Hp} (t : TupS H H') : ∀ {ps : List Pt} {vs : List V}, Iss H (ps.map pt) vs → Iss H' (ps.map pt) vs
  | [], _, h => by rw [of_nil h]; exact iss_nil
  | p :: ps, _, h => by
    obtain ⟨u, us, rfl, h1, h2⟩ := of_cons h
    exact iss_cons (ts_pt t h1) (ts_pts t h2)
theorem ts_pc {H H' : Hp} (t : TupS H H') {c : Pc} {v : V} (h : Is H (pcD c) v) : Is H' (pcD c) v := by
  obtain ⟨a, vs, rfl, ha, hi⟩ := of_t h
  exact is_t (t _ _ ha) (ts_pts t hi)
theorem ts_pcs {H H' : Hp} (t : TupS H H') : ∀ {cs : List Pc} {vs : List V}, Iss H (cs.map pcD) vs → Iss H' (cs.map pcD) vs
  | [], _, h => by rw [of_nil h]; exact iss_nil
  | p :: ps, _, h => by
    obtain ⟨u, us, rfl, h1, h2⟩ := of_cons h
    exact iss_cons (ts_pc t h1) (ts_pcs t h2)
theorem nw_ts {H0 H : Hp} (s : Same H0 H) : TupS H (nw H0 H) := fun a xs e => nw_tup s e
theorem nw_pts {H0 H : Hp} {ps : List Pt} {a : Addr} (s : Same H0 H) (n : H0 a = none) (h : Is H (pts ps) (.ref a)) : Is (nw H0 H) (pts ps) (.ref a) := by
  obtain ⟨_, vs, e, ha, hi⟩ := of_l h
  cases e
  exact is_l (by rw [nw_new n]; exact ha) (ts_pts (nw_ts s) hi)
theorem nw_cut {H0 H : Hp} {cs : List Pc} {a : Addr} (s : Same H0 H) (n : H0 a = none) (h : Is H (cutD cs) (.ref a)) : Is (nw H0 H) (cutD cs) (.ref a) := by
  obtain ⟨_, vs, e, ha, hi⟩ := of_l h
  cases e
  exact is_l (by rw [nw_new n]; exact ha) (ts_pcs (nw_ts s) hi)
theorem nw_free {H0 H1 H2 : Hp} {a : Addr} (n : H1 a = none) (s : Same H1 H2) : Same (nw H0 H1) (hid (nw H0 H2) a) := fun b o e => by
  have hb : b ≠ a := by rintro rfl; rw [nw_same _ _ e] at n; cases n
  rw [hid_at hb]
  exact nw_mono s b o e
theorem okM_len {n d : Nat} {ps es : List Pt} {s : Int} (h : okM n d ps s es = true) : (manF n d ps s es).length ≤ 100 ∧ ∀ x ∈ manF n d ps s es, x.length ≤ 100 := by
  cases n with
  | zero => cases h
  | succ n =>
    unfold okM at h
    simp only [Bool.and_eq_true, decide_eq_true_eq, List.all_eq_true] at h
    exact ⟨h.1.2, h.2⟩
theorem at_ptD {ps : List Pt} {j : Nat} (h : j < ps.length) : atI (ps.map pt) (j : Int) = some (pt (ps.getD j zP)) := by
  refine ix_D (j := j) rfl ?_
  rw [List.getElem?_map, List.getElem?_eq_getElem h, List.getD_eq_getElem?_getD, List.getElem?_eq_getElem h]
  rfl
theorem getD_memP {ps : List Pt} {j : Nat} (h : j < ps.length) : ps.getD j zP ∈ ps := by
  rw [List.getD_eq_getElem?_getD, List.getElem?_eq_getElem h]
  exact List.getElem_mem h
theorem psB_iff {ps : List Pt} (h : psB ps = true) : (∀ p ∈ ps, -20 ≤ p.1 ∧ p.1 ≤ 20 ∧ -20 ≤ p.2 ∧ p.2 ≤ 20) ∧ ps.length ≤ 30 := by
  unfold psB inB at h
  simp only [Bool.and_eq_true, decide_eq_true_eq, List.all_eq_true] at h
  exact ⟨fun p hp => by have := h.1 p hp; omega, h.2⟩
theorem find_some {p : Nat → Bool} : ∀ {n i : Nat}, i < n → (∀ j < i, p j = false) → p i = true → (List.range n).find? p = some i
  | 0, i, h, _, _ => absurd h (by omega)
  | n + 1, i, h, hb, hp => by
    rw [List.range_succ, List.find?_append]
    by_cases e : i = n
    · subst e
      have : (List.range i).find? p = none := by
        rw [List.find?_eq_none]
        intro j hj
        rw [hb j (List.mem_range.mp hj)]
        decide
      rw [this]
      simp [hp]
    · rw [find_some (n := n) (by omega) hb hp]
      rfl
theorem find_none {p : Nat → Bool} {n : Nat} (h : ∀ j < n, p j = false) : (List.range n).find? p = none := by
  rw [List.find?_eq_none]
  intro j hj
  rw [h j (List.mem_range.mp hj)]
  decide
theorem turn_lt {ps : List Pt} {s : Int} {p : Nat} (h : turnF ps s = some p) : 1 ≤ p ∧ p + 1 < ps.length := by
  unfold turnF at h
  obtain ⟨i, hi, rfl⟩ := Option.map_eq_some_iff.mp h
  have := List.mem_range.mp (List.mem_of_find?_eq_some hi)
  omega
def wkP (p : Pt) : List Int := [p.1, p.2]
def wk (ps : List Pt) : List (List Int) := ps.map wkP
theorem wk_inj {a b : List Pt} (h : wk a = wk b) : a = b := by
  induction a generalizing b with
  | nil => cases b with
    | nil => rfl
    | cons => cases h
  | cons p a ih => cases b with
    | nil => cases h
    | cons q b =>
      unfold wk at h
      rw [List.map_cons, List.map_cons] at h
      injection h with h1 h2
      unfold wkP at h1
      simp only [List.cons.injEq, and_true] at h1
      rw [ih h2, Prod.ext h1.1 h1.2]
def abI (i : Int) : Int := if i < 0 then -i else i
def pwF (c : Pc) : Int := if c.length = 3 then abI (crn (c.getD 0 zP) (c.getD 1 zP) (c.getD 2 zP)) else 1
def prodC : List Pc → Int
  | [] => 1
  | c :: cs => pwF c * prodC cs
theorem prodC_app : ∀ (a b : List Pc), prodC (a ++ b) = prodC a * prodC b
  | [], b => by simp [prodC]
  | c :: a, b => by
    rw [List.cons_append, prodC, prodC, prodC_app a b, Int.mul_assoc]
theorem prodC_one (c : Pc) : prodC [c] = pwF c := by simp [prodC]
theorem prodC_next {cs : List Pc} {c : Pc} {i : Nat} (h : cs[i]? = some c) : prodC (cs.take (i + 1)) = prodC (cs.take i) * pwF c := by
  rw [List.take_add_one, h, prodC_app]
  show _ * prodC [c] = _
  rw [prodC_one]
def pcB (c : Pc) : Bool := c.all inB && (decide (c.length = 3) || decide (c.length = 4))
def PcOk (c : Pc) : Prop := (∀ p ∈ c, inB p = true) ∧ (c.length = 3 ∨ c.length = 4)
theorem pcok_of {c : Pc} (h : pcB c = true) : PcOk c := by
  unfold pcB at h
  simp only [Bool.and_eq_true, Bool.or_eq_true, decide_eq_true_eq, List.all_eq_true] at h
  exact h
def okP (d : Nat) (ps : List Pt) : Bool := okM 30 d ps (-1) (loE d) && okM 30 d ps 1 (upE d) && decide ((rawC d ps).length < 64)
/-! parts and holes of cuttings -/
def iE : Int → Int → Bool
  | .ofNat m, .ofNat n => Nat.beq m n
  | .negSucc m, .negSucc n => Nat.beq m n
  | _, _ => false
theorem iE_iff {a b : Int} : iE a b = true ↔ a = b := by
  cases a <;> cases b <;> simp [iE] <;> omega
def pE (p q : Pt) : Bool := match iE p.1 q.1 with
  | true => iE p.2 q.2
  | false => false
theorem pE_iff {p q : Pt} : pE p q = true ↔ p = q := by
  unfold pE
  constructor
  · intro h
    split at h
    · next e => exact Prod.ext (iE_iff.mp e) (iE_iff.mp h)
    · cases h
  · rintro rfl
    rw [iE_iff.mpr rfl]
    exact iE_iff.mpr rfl
def cE : Pc → Pc → Bool
  | [], [] => true
  | p :: a, q :: b => match pE p q with
    | true => cE a b
    | false => false
  | _, _ => false
theorem cE_iff : ∀ {a b : Pc}, cE a b = true ↔ a = b
  | [], [] => by simp [cE]
  | [], q :: b => by simp [cE]
  | p :: a, [] => by simp [cE]
  | p :: a, q :: b => by
    unfold cE
    constructor
    · intro h
      split at h
      · next e => rw [pE_iff.mp e, cE_iff.mp h]
      · cases h
    · intro h
      injection h with h1 h2
      rw [pE_iff.mpr h1]
      exact cE_iff.mpr h2
theorem cE_dec (a b : Pc) : cE a b = decide (a = b) := by
  by_cases h : a = b
  · rw [cE_iff.mpr h]; simp [h]
  · have : cE a b ≠ true := fun z => h (cE_iff.mp z)
    simp [h, this]
def minQ (p q : Pt) : Pt := if ltPt q p = true then q else p
def maxQ (p q : Pt) : Pt := if gtI q p = true then q else p
def sidG : Pt → List Pt → List Pc
  | _, [] => []
  | a, p :: ps => [minQ a p, maxQ a p] :: sidG p ps
def sidF (c : Pc) : List Pc := sidG (c.getLastD zP) c
def getS : List (Pc × Pc) → Pc → Pc
  | [], _ => []
  | x :: R, k => match cE x.1 k with
    | true => x.2
    | false => getS R k
def hasS : List (Pc × Pc) → Pc → Bool
  | [], _ => false
  | x :: R, k => match cE x.1 k with
    | true => true
    | false => hasS R k
def isS : List Pc → Pc → Bool
  | [], _ => false
  | x :: R, k => match cE x k with
    | true => true
    | false => isS R k
/-- the different ones, in the order in which they first come -/
def difF : List Pc → List Pc → List Pc
  | D, [] => D
  | D, x :: xs => difF (match isS D x with | true => D | false => D ++ [x]) xs
def facG (c : Pc) : List (Pc × Pc) := if c.length = 4 then [((sidF c).getD 0 [], (sidF c).getD 2 []), ((sidF c).getD 1 [], (sidF c).getD 3 [])] else []
def gth1 (S : List (Pc × Pc)) (kept left : Pc) : List (Pc × Pc) := S.map fun y => (y.1, match cE y.2 left with | true => kept | false => y.2)
def gthF (S : List (Pc × Pc)) (ps : List (Pc × Pc)) : List (Pc × Pc) := ps.foldl (fun S x => gth1 S (getS S x.1) (getS S x.2)) S
def twice (xs : List Pc) : List (Pc × Pc) := xs.map fun x => (x, x)
def thrF (cs : List Pc) : List (Pc × Pc) := gthF (twice (difF [] (cs.flatMap sidF))) (cs.flatMap facG)
def corF (cs : List Pc) : List Pc := cs.filter fun c => decide (c.length = 3)
def jo1 (T : List (Pc × Pc)) (c : Pc) (FJ : List (Pc × Pc) × List (Pc × Pc)) (s : Pc) : List (Pc × Pc) × List (Pc × Pc) :=
  match hasS FJ.1 (getS T s) with
  | true => (FJ.1, FJ.2 ++ [(getS FJ.1 (getS T s), c)])
  | false => (FJ.1 ++ [(getS T s, c)], FJ.2)
def jo2 (T : List (Pc × Pc)) (FJ : List (Pc × Pc) × List (Pc × Pc)) (c : Pc) : List (Pc × Pc) × List (Pc × Pc) := (sidF c).foldl (jo1 T c) FJ
def joG (T : List (Pc × Pc)) (cs : List Pc) : List (Pc × Pc) × List (Pc × Pc) := cs.foldl (jo2 T) ([], [])
def joiF (cs : List Pc) : List (Pc × Pc) := (joG (thrF cs) (corF cs)).2
def setsF (xs : List Pc) (ps : List (Pc × Pc)) : Nat := ((gthF (twice xs) ps).filter fun y => cE y.2 y.1).length
def parF (cs : List Pc) : Nat := setsF (corF cs) (joiF cs)
def ndB : List Pc → Bool
  | [] => true
  | x :: xs => match isS xs x with
    | true => false
    | false => ndB xs
/-- what the program leans on: no piece twice, few of each -/
def few25 (cs : List Pc) : Bool := ndB (corF cs) && decide (cs.length ≤ 100) && cs.all pcB
/-! what is gathered: facts -/
theorem cE_ne {a b : Pc} (h : a ≠ b) : cE a b = false := by rw [cE_dec]; simp [h]
theorem getS_pos {x : Pc × Pc} {R : List (Pc × Pc)} {k : Pc} (e : x.1 = k) : getS (x :: R) k = x.2 := by
  show (match cE x.1 k with | true => x.2 | false => getS R k) = _
  rw [cE_iff.mpr e]
theorem getS_neg {x : Pc × Pc} {R : List (Pc × Pc)} {k : Pc} (e : x.1 ≠ k) : getS (x :: R) k = getS R k := by
  show (match cE x.1 k with | true => x.2 | false => getS R k) = _
  rw [cE_ne e]
theorem hasS_iff {k : Pc} : ∀ {S : List (Pc × Pc)}, hasS S k = true ↔ k ∈ S.map (·.1)
  | [] => by simp [hasS]
  | x :: S => by
    have ih := hasS_iff (k := k) (S := S)
    show (match cE x.1 k with | true => true | false => hasS S k) = true ↔ _
    by_cases e : x.1 = k
    · rw [cE_iff.mpr e]; simp [e]
    · rw [cE_ne e, List.map_cons, List.mem_cons]
      exact ⟨fun h => .inr (ih.mp h), fun h => h.elim (fun z => absurd z.symm e) ih.mpr⟩
theorem isS_iff {k : Pc} : ∀ {S : List Pc}, isS S k = true ↔ k ∈ S
  | [] => by simp [isS]
  | x :: S => by
    have ih := isS_iff (k := k) (S := S)
    show (match cE x k with | true => true | false => isS S k) = true ↔ _
    by_cases e : x = k
    · rw [cE_iff.mpr e]; simp [e]
    · rw [cE_ne e, List.mem_cons]
      exact ⟨fun h => .inr (ih.mp h), fun h => h.elim (fun z => absurd z.symm e) ih.mpr⟩
theorem ndB_iff : ∀ {xs : List Pc}, ndB xs = true → xs.Nodup
  | [], _ => List.nodup_nil
  | x :: xs, h => by
    have h : (match isS xs x with | true => false | false => ndB xs) = true := h
    cases e : isS xs x with
    | true => rw [e] at h; cases h
    | false =>
      rw [e] at h
      exact List.nodup_cons.mpr ⟨fun z => (by rw [isS_iff.mpr z] at e; cases e), ndB_iff h⟩
theorem getS_mid {k p : Pc} {B : List (Pc × Pc)} : ∀ {A : List (Pc × Pc)}, k ∉ A.map (·.1) → getS (A ++ (k, p) :: B) k = p
  | [], _ => getS_pos rfl
  | x :: A, h => by
    rw [List.cons_append, getS_neg (fun z => h (by simp [z]))]
    exact getS_mid fun z => h (List.mem_cons_of_mem _ z)
theorem gth1_keys (S : List (Pc × Pc)) (a b : Pc) : (gth1 S a b).map (·.1) = S.map (·.1) := by
  unfold gth1
  rw [List.map_map]
  rfl
theorem gthF_keys : ∀ (ps S : List (Pc × Pc)), (gthF S ps).map (·.1) = S.map (·.1)
  | [], _ => rfl
  | x :: ps, S => by
    show (gthF (gth1 S _ _) ps).map (·.1) = _
    rw [gthF_keys ps, gth1_keys]
theorem twice_keys (xs : List Pc) : (twice xs).map (·.1) = xs := by
  unfold twice
  rw [List.map_map]
  exact List.map_id xs
theorem gthF_snoc {S ps : List (Pc × Pc)} {x : Pc × Pc} : gthF S (ps ++ [x]) = gth1 (gthF S ps) (getS (gthF S ps) x.1) (getS (gthF S ps) x.2) := by
  unfold gthF
  rw [List.foldl_append]
  rfl
theorem gth1_next {S : List (Pc × Pc)} {y : Pc × Pc} {j : Nat} {a b : Pc} (h : S[j]? = some y) : gth1 (S.take (j + 1)) a b ++ S.drop (j + 1) = gth1 (S.take j) a b ++ (y.1, match cE y.2 b with | true => a | false => y.2) :: S.drop (j + 1) := by
  rw [List.take_add_one, h]
  unfold gth1
  rw [List.map_append, List.append_assoc]
  rfl
theorem drop_next {α : Type} {S : List α} {y : α} {j : Nat} (h : S[j]? = some y) : S.drop j = y :: S.drop (j + 1) := by
  obtain ⟨hj, e⟩ := List.getElem?_eq_some_iff.mp h
  rw [List.drop_eq_getElem_cons hj, e]
/-! the different ones -/
def dif1 (D : List Pc) (x : Pc) : List Pc := match isS D x with | true => D | false => D ++ [x]
theorem difF_app : ∀ (a b D : List Pc), difF D (a ++ b) = difF (difF D a) b
  | [], _, _ => rfl
  | x :: a, b, D => difF_app a b _
theorem difF_snoc (D xs : List Pc) (x : Pc) : difF D (xs ++ [x]) = dif1 (difF D xs) x := difF_app xs [x] D
theorem dif1_mem {D : List Pc} {x y : Pc} : y ∈ dif1 D x ↔ y ∈ D ∨ y = x := by
  unfold dif1
  cases e : isS D x with
  | true => exact ⟨.inl, fun h => h.elim id fun z => (by rw [z]; exact isS_iff.mp e)⟩
  | false => simp
theorem dif1_nd {D : List Pc} {x : Pc} (h : D.Nodup) : (dif1 D x).Nodup := by
  unfold dif1
  cases e : isS D x with
  | true => exact h
  | false =>
    refine List.nodup_append.mpr ⟨h, by simp, fun a ha b hb z => ?_⟩
    rw [List.mem_singleton.mp hb] at z
    rw [z] at ha
    rw [isS_iff.mpr ha] at e
    cases e
theorem difF_mem {y : Pc} : ∀ {xs D : List Pc}, y ∈ difF D xs ↔ y ∈ D ∨ y ∈ xs
  | [], D => by simp [difF]
  | x :: xs, D => by
    show y ∈ difF (dif1 D x) xs ↔ _
    rw [difF_mem, dif1_mem, List.mem_cons, or_assoc]
theorem difF_nd : ∀ {xs D : List Pc}, D.Nodup → (difF D xs).Nodup
  | [], D, h => h
  | x :: xs, D, h => difF_nd (xs := xs) (D := dif1 D x) (dif1_nd h)
theorem dif1_len (D : List Pc) (x : Pc) : (dif1 D x).length ≤ D.length + 1 := by
  unfold dif1
  cases isS D x <;> simp
theorem difF_len : ∀ (xs D : List Pc), (difF D xs).length ≤ D.length + xs.length
  | [], D => Nat.le_refl _
  | x :: xs, D => by
    have h1 : (difF D (x :: xs)).length ≤ _ := difF_len xs (dif1 D x)
    have h2 := dif1_len D x
    simp only [List.length_cons]
    omega
theorem sidG_len : ∀ (c : List Pt) (a : Pt), (sidG a c).length = c.length
  | [], _ => rfl
  | p :: c, a => by
    show (sidG p c).length + 1 = c.length + 1
    rw [sidG_len c p]
theorem sidF_len (c : Pc) : (sidF c).length = c.length := sidG_len c _
theorem flat_len {cs : List Pc} (h : ∀ c ∈ cs, PcOk c) : (cs.flatMap sidF).length ≤ 4 * cs.length := by
  induction cs with
  | nil => exact Nat.le_refl _
  | cons c cs ih =>
    have := ih fun c hc => h c (List.mem_cons_of_mem _ hc)
    have h2 := (h c List.mem_cons_self).2
    rw [List.flatMap_cons, List.length_append, sidF_len, List.length_cons]
    omega
theorem fac_len {cs : List Pc} : (cs.flatMap facG).length ≤ 2 * cs.length := by
  induction cs with
  | nil => exact Nat.le_refl _
  | cons c cs ih =>
    rw [List.flatMap_cons, List.length_append, List.length_cons]
    have : (facG c).length ≤ 2 := by unfold facG; split <;> simp
    omega
theorem fac_mem {c : Pc} {x : Pc × Pc} (h : x ∈ facG c) : x.1 ∈ sidF c ∧ x.2 ∈ sidF c := by
  unfold facG at h
  split at h
  · next e =>
    have l := sidF_len c
    have gm : ∀ i, i < 4 → (sidF c).getD i [] ∈ sidF c := fun i hi => by
      rw [List.getD_eq_getElem?_getD, List.getElem?_eq_getElem (by omega)]
      exact List.getElem_mem _
    simp only [List.mem_cons, List.not_mem_nil, or_false] at h
    rcases h with rfl | rfl
    · exact ⟨gm 0 (by omega), gm 2 (by omega)⟩
    · exact ⟨gm 1 (by omega), gm 3 (by omega)⟩
  · cases h
theorem thr_keys (cs : List Pc) : (thrF cs).map (·.1) = difF [] (cs.flatMap sidF) := by
  unfold thrF
  rw [gthF_keys, twice_keys]
theorem side_key {cs : List Pc} {c s : Pc} (hc : c ∈ cs) (hs : s ∈ sidF c) : s ∈ (thrF cs).map (·.1) := by
  rw [thr_keys]
  exact difF_mem.mpr (.inr (List.mem_flatMap.mpr ⟨c, hc, hs⟩))
/-! what is joined -/
theorem jo1_len (T : List (Pc × Pc)) (c : Pc) (FJ : List (Pc × Pc) × List (Pc × Pc)) (s : Pc) : (jo1 T c FJ s).1.length + (jo1 T c FJ s).2.length = FJ.1.length + FJ.2.length + 1 := by
  unfold jo1
  cases hasS FJ.1 (getS T s) <;> simp <;> omega
def JoIn (C : List Pc) (FJ : List (Pc × Pc) × List (Pc × Pc)) : Prop := (∀ x ∈ FJ.1, x.2 ∈ C) ∧ ∀ x ∈ FJ.2, x.1 ∈ C ∧ x.2 ∈ C
theorem getS_mem {S : List (Pc × Pc)} {k : Pc} (h : k ∈ S.map (·.1)) : (k, getS S k) ∈ S := by
  induction S with
  | nil => cases h
  | cons x S ih =>
    by_cases e : x.1 = k
    · rw [getS_pos e, ← e]; exact List.mem_cons_self
    · rw [getS_neg e]
      refine List.mem_cons_of_mem _ (ih ?_)
      rw [List.map_cons] at h
      exact (List.mem_cons.mp h).elim (fun z => absurd z.symm e) id
theorem jo1_in {C : List Pc} {T : List (Pc × Pc)} {c : Pc} {FJ : List (Pc × Pc) × List (Pc × Pc)} (s : Pc) (hc : c ∈ C) (h : JoIn C FJ) : JoIn C (jo1 T c FJ s) := by
  unfold jo1
  cases e : hasS FJ.1 (getS T s) with
  | true =>
    refine ⟨h.1, fun x hx => ?_⟩
    rcases List.mem_append.mp hx with hx | hx
    · exact h.2 x hx
    · rw [List.mem_singleton.mp hx]
      exact ⟨h.1 _ (getS_mem (hasS_iff.mp e)), hc⟩
  | false =>
    refine ⟨fun x hx => ?_, h.2⟩
    rcases List.mem_append.mp hx with hx | hx
    · exact h.1 x hx
    · rw [List.mem_singleton.mp hx]
      exact hc
theorem jo1s_in {C : List Pc} {T : List (Pc × Pc)} {c : Pc} (hc : c ∈ C) : ∀ (ss : List Pc) (FJ : List (Pc × Pc) × List (Pc × Pc)), JoIn C FJ → JoIn C (ss.foldl (jo1 T c) FJ)
  | [], _, h => h
  | s :: ss, FJ, h => jo1s_in hc ss _ (jo1_in s hc h)
theorem jo2s_in {C : List Pc} {T : List (Pc × Pc)} : ∀ (cs : List Pc) (FJ : List (Pc × Pc) × List (Pc × Pc)), (∀ c ∈ cs, c ∈ C) → JoIn C FJ → JoIn C (cs.foldl (jo2 T) FJ)
  | [], _, _, h => h
  | c :: cs, FJ, hc, h => jo2s_in cs _ (fun x hx => hc x (List.mem_cons_of_mem _ hx)) (jo1s_in (hc c List.mem_cons_self) _ _ h)
theorem joi_in (cs : List Pc) : ∀ x ∈ joiF cs, x.1 ∈ corF cs ∧ x.2 ∈ corF cs :=
  (jo2s_in (C := corF cs) (T := thrF cs) (corF cs) ([], []) (fun _ h => h) ⟨fun _ h => (nomatch h), fun _ h => (nomatch h)⟩).2
theorem jo1s_len (T : List (Pc × Pc)) (c : Pc) : ∀ (ss : List Pc) (FJ : List (Pc × Pc) × List (Pc × Pc)), (ss.foldl (jo1 T c) FJ).1.length + (ss.foldl (jo1 T c) FJ).2.length = FJ.1.length + FJ.2.length + ss.length
  | [], _ => rfl
  | s :: ss, FJ => by
    rw [List.foldl_cons, jo1s_len T c ss, jo1_len, List.length_cons]
    omega
theorem jo2s_len (T : List (Pc × Pc)) : ∀ (cs : List Pc) (FJ : List (Pc × Pc) × List (Pc × Pc)), (∀ c ∈ cs, c.length ≤ 4) → (cs.foldl (jo2 T) FJ).1.length + (cs.foldl (jo2 T) FJ).2.length ≤ FJ.1.length + FJ.2.length + 4 * cs.length
  | [], _, _ => Nat.le_refl _
  | c :: cs, FJ, h => by
    have h1 := jo2s_len T cs (jo2 T FJ c) fun x hx => h x (List.mem_cons_of_mem _ hx)
    have h2 : (jo2 T FJ c).1.length + (jo2 T FJ c).2.length = _ := jo1s_len T c (sidF c) FJ
    have h3 := h c List.mem_cons_self
    rw [sidF_len] at h2
    rw [List.foldl_cons, List.length_cons]
    omega
theorem cor_mem {cs : List Pc} {c : Pc} (h : c ∈ corF cs) : c ∈ cs ∧ c.length = 3 := by
  unfold corF at h
  have := List.mem_filter.mp h
  exact ⟨this.1, by simpa using this.2⟩
theorem cor_len (cs : List Pc) : (corF cs).length ≤ cs.length := List.length_filter_le _ _
theorem cor_next {cs : List Pc} {c : Pc} {i : Nat} (h : cs[i]? = some c) : corF (cs.take (i + 1)) = corF (cs.take i) ++ if c.length = 3 then [c] else [] := by
  unfold corF
  rw [List.take_add_one, h, List.filter_append]
  simp [List.filter_cons]
def Cut (cs : List Pc) : Prop := (∀ c ∈ cs, PcOk c) ∧ cs.length ≤ 100 ∧ (corF cs).Nodup

/-! the law's own way -/
def lsd1 (c : Pc) (j : Nat) : Pc := [minQ (c.getD j zP) (c.getD ((j + 1) % c.length) zP), maxQ (c.getD j zP) (c.getD ((j + 1) % c.length) zP)]
def lsdF (c : Pc) : List Pc := (List.range c.length).map (lsd1 c)
def lnxP (A : List (List Pc)) (p : Nat) (s : Pc) (k : Nat) : Bool := match Nat.beq k p with
  | true => false
  | false => isS (A.getD k []) s
def lnxF (A : List (List Pc)) (p : Nat) (s : Pc) : List Nat := (List.range A.length).filter (lnxP A p s)
def idxF : List Pc → Pc → Nat
  | [], _ => 0
  | x :: xs, s => match cE x s with
    | true => 0
    | false => idxF xs s + 1
def lenF (A : List (List Pc)) : Nat → Nat → Pc → Int
  | 0, _, _ => -1
  | n + 1, p, s => match lnxF A p s with
    | [] => -1
    | q :: _ => if (A.getD q []).length = 3 then (q : Int) else lenF A n q ((A.getD q []).getD ((idxF (A.getD q []) s + 2) % 4) [])
def endF (A : List (List Pc)) (p : Nat) (s : Pc) : Int := lenF A (2 * A.length + 2) p s
def lpr1 (A : List (List Pc)) (p : Nat) (s : Pc) : List (Nat × Nat) := if endF A p s > p then [(p, (endF A p s).toNat)] else []
def ljo1 (A : List (List Pc)) (cs : List Pc) (p : Nat) : List (Nat × Nat) := if (cs.getD p []).length = 3 then (A.getD p []).flatMap (lpr1 A p) else []
def ljoF (cs : List Pc) : List (Nat × Nat) := (List.range cs.length).flatMap (ljo1 (cs.map lsdF) cs)
def hdR (o n : Nat) (y : Nat) : Nat := match Nat.beq y o with
  | true => n
  | false => y
def hd1 (h : List Nat) (x : Nat × Nat) : List Nat := h.map (hdR (h.getD x.2 0) (h.getD x.1 0))
def hdF (n : Nat) (ps : List (Nat × Nat)) : List Nat := ps.foldl hd1 (List.range n)
def fnd1 (cs : List Pc) (h f : List Nat) (p : Nat) : List Nat := if (cs.getD p []).length = 3 ∧ ¬ h.getD p 0 ∈ f then f ++ [h.getD p 0] else f
def fndF (cs : List Pc) (h : List Nat) (n : Nat) : List Nat := (List.range n).foldl (fnd1 cs h) []
def lpaF (cs : List Pc) (ps : List (Nat × Nat)) : Nat := (fndF cs (hdF cs.length ps) cs.length).length
def lwS (row : List Pt) (k : Nat) : Nat → List (List Pt)
  | 0 => [row.take 1]
  | i + 1 => (lwS row k i).flatMap fun r => [r ++ [row.getD (i + 1) zP]] ++ if (1 + (i : Int)) - (r.length : Int) < (k : Int) then [r] else []
def lwF (d k : Nat) : List (List Pt) := ((lwS (ptsOf d) k ((ptsOf d).length - 2)).filter fun r => decide ((r.length : Int) + 1 = ((ptsOf d).length : Int) - (k : Int))).map fun r => r ++ [pl d]
def smB (d k : Nat) : Bool := (List.range ((ptsOf d).length - 1)).all fun i => decide ((lwS (ptsOf d) k i).length ≤ 400) && (lwS (ptsOf d) k i).all fun r => decide (r.length ≤ 20)
/-! the curves of one part, summed over the ways -/
def wrthF (cs : List Pc) : Int := if parF cs = 1 then prodC cs else 0
def totW (d : Nat) (w : List Pt) : Int := ((rawC d w).map wrthF).sum
def totC (d : Nat) (L : List (List Pt)) : Int := (L.map (totW d)).sum
def one26 (d : Nat) (w : List Pt) : Bool := okP d w && (rawC d w).all fun cs => few25 cs && (Nat.beq d 4 || Nat.beq (lpaF cs (ljoF cs)) (parF cs))
def w26 (d k : Nat) : Bool := (lwF d k).isPerm (sW d k) && smB d k && decide ((sW d k).length ≤ 400)
def all26 (d k : Nat) : Bool := (lwF d k).all (one26 d)
def cut26 (d k n m : Nat) : Bool := (((lwF d k).drop n).take m).all (one26 d)
def tot26 (d k n m : Nat) : Int := totC d (((lwF d k).drop n).take m)
theorem w26_1_0 : w26 1 0 = true := by decide +kernel
theorem a26_1_0 : all26 1 0 = true := by decide +kernel
theorem w26_1_1 : w26 1 1 = true := by decide +kernel
theorem a26_1_1 : all26 1 1 = true := by decide +kernel
theorem w26_1_2 : w26 1 2 = true := by decide +kernel
theorem a26_1_2 : all26 1 2 = true := by decide +kernel
theorem w26_1_3 : w26 1 3 = true := by decide +kernel
theorem a26_1_3 : all26 1 3 = true := by decide +kernel
theorem w26_1_4 : w26 1 4 = true := by decide +kernel
theorem a26_1_4 : all26 1 4 = true := by decide +kernel
theorem w26_1_5 : w26 1 5 = true := by decide +kernel
theorem a26_1_5 : all26 1 5 = true := by decide +kernel
theorem w26_1_6 : w26 1 6 = true := by decide +kernel
theorem a26_1_6 : all26 1 6 = true := by decide +kernel
theorem w26_2_0 : w26 2 0 = true := by decide +kernel
theorem a26_2_0 : all26 2 0 = true := by decide +kernel
theorem w26_2_1 : w26 2 1 = true := by decide +kernel
theorem a26_2_1 : all26 2 1 = true := by decide +kernel
theorem w26_2_2 : w26 2 2 = true := by decide +kernel
theorem a26_2_2 : all26 2 2 = true := by decide +kernel
theorem w26_2_3 : w26 2 3 = true := by decide +kernel
theorem a26_2_3 : all26 2 3 = true := by decide +kernel
theorem w26_2_4 : w26 2 4 = true := by decide +kernel
theorem a26_2_4 : all26 2 4 = true := by decide +kernel
theorem w26_2_5 : w26 2 5 = true := by decide +kernel
theorem a26_2_5 : all26 2 5 = true := by decide +kernel
theorem w26_2_6 : w26 2 6 = true := by decide +kernel
theorem a26_2_6 : all26 2 6 = true := by decide +kernel
theorem w26_3_0 : w26 3 0 = true := by decide +kernel
theorem a26_3_0 : all26 3 0 = true := by decide +kernel
theorem w26_3_1 : w26 3 1 = true := by decide +kernel
theorem a26_3_1 : all26 3 1 = true := by decide +kernel
theorem w26_3_2 : w26 3 2 = true := by decide +kernel
theorem a26_3_2 : all26 3 2 = true := by decide +kernel
theorem w26_3_3 : w26 3 3 = true := by decide +kernel
theorem a26_3_3 : all26 3 3 = true := by decide +kernel
theorem w26_3_4 : w26 3 4 = true := by decide +kernel
theorem a26_3_4 : all26 3 4 = true := by decide +kernel
theorem w26_3_5 : w26 3 5 = true := by decide +kernel
theorem a26_3_5 : all26 3 5 = true := by decide +kernel
theorem w26_3_6 : w26 3 6 = true := by decide +kernel
theorem a26_3_6 : all26 3 6 = true := by decide +kernel
theorem w26_4_0 : w26 4 0 = true := by decide +kernel
theorem a26_4_0 : all26 4 0 = true := by decide +kernel
theorem w26_4_1 : w26 4 1 = true := by decide +kernel
theorem a26_4_1 : all26 4 1 = true := by decide +kernel
theorem w26_4_2 : w26 4 2 = true := by decide +kernel
theorem a26_4_2a : cut26 4 2 0 20 = true := by decide +kernel
theorem a26_4_2b : cut26 4 2 20 20 = true := by decide +kernel
theorem a26_4_2c : cut26 4 2 40 20 = true := by decide +kernel
theorem a26_4_2d : cut26 4 2 60 20 = true := by decide +kernel
theorem t26_4_0 : totC 4 (lwF 4 0) = 1 := by decide +kernel
theorem t26_4_1 : totC 4 (lwF 4 1) = 27 := by decide +kernel
theorem t26_4_2a : tot26 4 2 0 20 = 52 := by decide +kernel
theorem t26_4_2b : tot26 4 2 20 20 = 141 := by decide +kernel
theorem t26_4_2c : tot26 4 2 40 20 = 32 := by decide +kernel
theorem t26_4_2d : tot26 4 2 60 20 = 0 := by decide +kernel
theorem all_cut {f : List Pt → Bool} {L : List (List Pt)} {n m : Nat} (h1 : ((L.drop n).take m).all f = true) (h2 : (L.drop (n + m)).all f = true) : (L.drop n).all f = true := by
  rw [← List.take_append_drop m (L.drop n), List.all_append, h1, List.drop_drop, h2]
  rfl
theorem tot_cut {d : Nat} {L : List (List Pt)} {n m : Nat} : totC d (L.drop n) = totC d ((L.drop n).take m) + totC d (L.drop (n + m)) := by
  unfold totC
  rw [← List.sum_append, ← List.map_append, ← List.drop_drop, List.take_append_drop]
theorem len26 : (lwF 4 2).length = 78 := by decide +kernel
theorem a26_4_2 : all26 4 2 = true := by
  have h80 : ((lwF 4 2).drop (60 + 20)).all (one26 4) = true := by
    rw [List.drop_eq_nil_of_le (by rw [len26]; decide)]
    rfl
  exact all_cut (n := 0) a26_4_2a (all_cut a26_4_2b (all_cut a26_4_2c (all_cut a26_4_2d h80)))
theorem t26_4_2 : totC 4 (lwF 4 2) = 225 := by
  have h80 : totC 4 ((lwF 4 2).drop (60 + 20)) = 0 := by
    rw [List.drop_eq_nil_of_le (by rw [len26]; decide)]
    rfl
  have a := t26_4_2a
  have b := t26_4_2b
  have c := t26_4_2c
  have e := t26_4_2d
  unfold tot26 at a b c e
  have f := tot_cut (d := 4) (L := lwF 4 2) (n := 0) (m := 20)
  rw [a, tot_cut (n := 0 + 20) (m := 20), b, tot_cut (n := 0 + 20 + 20) (m := 20), c, tot_cut (n := 0 + 20 + 20 + 20) (m := 20), e, h80] at f
  exact f
def nT26 : List (Nat × Nat) := [(1, 0), (1, 1), (1, 2), (1, 3), (1, 4), (1, 5), (1, 6), (2, 0), (2, 1), (2, 2), (2, 3), (2, 4), (2, 5), (2, 6), (3, 0), (3, 1), (3, 2), (3, 3), (3, 4), (3, 5), (3, 6), (4, 0), (4, 1), (4, 2)]
theorem n26_mem {d k : Nat} (h : Narrow d k) : (d, k) ∈ nT26 := by
  have key : ∀ d : Fin 5, ∀ k : Fin 7, 1 ≤ d.1 ∧ ((d.1 ≤ 3 ∧ k.1 ≤ 6) ∨ (d.1 = 4 ∧ k.1 ≤ 2)) → (d.1, k.1) ∈ nT26 := by decide
  unfold Narrow at h
  exact key ⟨d, by omega⟩ ⟨k, by omega⟩ h
theorem f26 {d k : Nat} (h : Narrow d k) : w26 d k = true ∧ all26 d k = true := by
  have key : ∀ x ∈ nT26, w26 x.1 x.2 = true ∧ all26 x.1 x.2 = true := by
    unfold nT26
    simp only [List.forall_mem_cons, List.not_mem_nil, false_implies, implies_true, and_true]
    exact ⟨⟨w26_1_0, a26_1_0⟩, ⟨w26_1_1, a26_1_1⟩, ⟨w26_1_2, a26_1_2⟩, ⟨w26_1_3, a26_1_3⟩, ⟨w26_1_4, a26_1_4⟩, ⟨w26_1_5, a26_1_5⟩, ⟨w26_1_6, a26_1_6⟩, ⟨w26_2_0, a26_2_0⟩, ⟨w26_2_1, a26_2_1⟩, ⟨w26_2_2, a26_2_2⟩, ⟨w26_2_3, a26_2_3⟩, ⟨w26_2_4, a26_2_4⟩, ⟨w26_2_5, a26_2_5⟩, ⟨w26_2_6, a26_2_6⟩, ⟨w26_3_0, a26_3_0⟩, ⟨w26_3_1, a26_3_1⟩, ⟨w26_3_2, a26_3_2⟩, ⟨w26_3_3, a26_3_3⟩, ⟨w26_3_4, a26_3_4⟩, ⟨w26_3_5, a26_3_5⟩, ⟨w26_3_6, a26_3_6⟩, ⟨w26_4_0, a26_4_0⟩, ⟨w26_4_1, a26_4_1⟩, ⟨w26_4_2, a26_4_2⟩⟩
  exact key _ (n26_mem h)
theorem c16 {d k : Nat} (h : Narrow d k) : (lwF d k).Perm (sW d k) ∧ True ∧ smB d k = true ∧ (sW d k).length ≤ 400 := by
  have := (f26 h).1
  unfold w26 at this
  simp only [Bool.and_eq_true, decide_eq_true_eq] at this
  obtain ⟨⟨a, c⟩, e⟩ := this
  exact ⟨List.isPerm_iff.mp a, trivial, c, e⟩
theorem g26 {d k : Nat} (h : Narrow d k) {w : List Pt} (hw : w ∈ lwF d k) : okP d w = true ∧ ∀ cs ∈ rawC d w, Cut cs ∧ (d ≤ 3 → lpaF cs (ljoF cs) = parF cs) := by
  have o := List.all_eq_true.mp (f26 h).2 w hw
  unfold one26 at o
  rw [Bool.and_eq_true, List.all_eq_true] at o
  refine ⟨o.1, fun cs hc => ?_⟩
  have := o.2 cs hc
  unfold few25 at this
  simp only [Bool.and_eq_true, Bool.or_eq_true, decide_eq_true_eq, List.all_eq_true] at this
  obtain ⟨⟨⟨a1, a2⟩, a3⟩, a4⟩ := this
  refine ⟨⟨fun c hc => pcok_of (a3 c hc), a2, ndB_iff a1⟩, fun h3 => ?_⟩
  rcases a4 with a4 | a4
  · have := Nat.eq_of_beq_eq_true a4
    omega
  · exact Nat.eq_of_beq_eq_true a4
theorem sum_perm {α : Type} (f : α → Int) {L M : List α} (h : L.Perm M) : (L.map f).sum = (M.map f).sum := by
  induction h with
  | nil => rfl
  | cons x _ ih => rw [List.map_cons, List.map_cons, List.sum_cons, List.sum_cons, ih]
  | swap x y l => simp only [List.map_cons, List.sum_cons]; omega
  | trans _ _ i1 i2 => rw [i1, i2]
theorem sum_next {α : Type} (f : α → Int) {L : List α} {c : α} {i : Nat} (h : L[i]? = some c) : ((L.take (i + 1)).map f).sum = ((L.take i).map f).sum + f c := by
  rw [List.take_add_one, h, List.map_append, List.sum_append]
  simp

/-! the promises -/
def spCell (K : PySem.W.Frag) : Sp := fun vs H Q _ => ∃ (a : Addr) (ns : List Int) (k : Int), vs = [.ref a, .int k] ∧ SqL K H a (ns.map V.int) ∧ 0 ≤ k ∧ ∀ z, Q (.int z) H
def spNumber (K : PySem.W.Frag) : Sp := fun vs H Q _ => ∃ (a : Addr) (ns : List Int) (k : Int), vs = [.ref a, .int k] ∧ SqL K H a (ns.map V.int) ∧ 0 ≤ k ∧ k ≤ 100000 ∧ ∀ z, 0 ≤ z → Q (.int z) H
def But (b : Addr) (H H' : Hp) : Prop := ∀ c o, H c = some o → c ≠ b → H' c = some o
theorem But.of_same {b : Addr} {H H' : Hp} (s : Same H H') : But b H H' := fun c o e _ => s _ _ e
theorem But.trans {b : Addr} {H H' H'' : Hp} (s : But b H H') (t : But b H' H'') : But b H H'' := fun c o e n => t c o (s c o e n) n
theorem But.upd {b : Addr} {H : Hp} {o : HO} : But b H (L2.upd H b o) := fun c u e n => by rw [upd_ne n]; exact e
theorem But.same {b : Addr} {H H1 H2 : Hp} (s : Same H H1) (nb : H b = none) (t : But b H1 H2) : Same H H2 := fun c o e => t c o (s c o e) (by rintro rfl; rw [nb] at e; cases e)
theorem cut_take {vs : List V} {k : Nat} : cutV vs none (some (k : Int)) = vs.take k := by
  unfold cutV
  rw [HT.sIx_nat, HT.sIx_none, List.drop_zero, Nat.sub_zero]
  exact List.take_eq_take_iff.mpr (by omega)
theorem hid_but {H H' : Hp} {a : Addr} (k : But a H H') : Same (hid H a) H' := fun b o e => by
  have hb : b ≠ a := by rintro rfl; rw [hid_self] at e; cases e
  rw [hid_at hb] at e
  exact k _ _ e hb
theorem cut_dropI {vs : List V} {i : Nat} (h : i ≤ vs.length) : cutV vs (some (i : Int)) none = vs.drop i := by
  unfold cutV
  rw [HT.sIx_nat, HT.sIx_none, Nat.min_eq_left h, List.take_of_length_le (by simp)]
def spEdge (c : Addr) (f : Nat → List Pt) : Sp := fun vs H Q E => ∃ v, vs = [v] ∧ Thing H v ∧ (∀ n : Nat, v = .int n → 1 ≤ n → n ≤ 5 → ∀ l H', Same H H' → H l = none → Is H' (pts (f n)) (.ref l) → Q (.ref l) H') ∧ (¬ Within 1 5 v → E (.ref c) none H)
def sp_law (K : PySem.W.Frag) : Sp := fun vs H Q _ => ∃ (a : Addr) (ns : List Int), vs = [.ref a] ∧ SqL K H a (ns.map V.int) ∧ ns.length ≤ 63 ∧ ∀ H', Q (.bl true) H'
def stpD (x : Pc × List Pt) : D := .t [pcD x.1, pts x.2]
def Sd (s : Int) : Prop := s = 1 ∨ s = -1
def spCrn (_ : PySem.W.Frag) : Sp := fun vs H Q _ => ∃ (a b c : V) (p q r : Pt), vs = [a, b, c] ∧ Is H (pt p) a ∧ Is H (pt q) b ∧ Is H (pt r) c ∧ inB p = true ∧ inB q = true ∧ inB r = true ∧ Q (.int (crn p q r)) H
def spIsP (_ : PySem.W.Frag) : Sp := fun vs H Q _ => ∃ (d : Nat) (v : V) (p : Pt), vs = [.int d, v] ∧ Is H (pt p) v ∧ Q (.bl (isPt d p)) H
def optV : Option Nat → V
  | none => .non
  | some p => .int p
def spTurn (_ : PySem.W.Frag) : Sp := fun vs H Q _ => ∃ (v : V) (ps : List Pt) (s : Int), vs = [v, .int s] ∧ Is H (pts ps) v ∧ psB ps = true ∧ Sd s ∧ Q (optV (turnF ps s)) H
def spSteps (_ : PySem.W.Frag) : Sp := fun vs H Q _ => ∃ (d : Nat) (v : V) (ps : List Pt) (s : Int), vs = [.int d, v, .int s] ∧ Is H (pts ps) v ∧ psB ps = true ∧ Sd s ∧ ∀ l H', Same H H' → H l = none → Is (nw H H') (.l ((stepsF d ps s).map stpD)) (.ref l) → Q (.ref l) H'
def spMan (n : Nat) (_ : PySem.W.Frag) : Sp := fun vs H Q _ => ∃ (d : Nat) (v ev : V) (ps es : List Pt) (s : Int), vs = [.int d, v, .int s, ev] ∧ Is H (pts ps) v ∧ Is H (pts es) ev ∧ okM n d ps s es = true ∧ Sd s ∧ ∀ l H', Same H H' → H l = none → Is (nw H H') (.l ((manF n d ps s es).map cutD)) (.ref l) → Q (.ref l) H'
theorem nK_pts (ps : List Pt) : nK (wk ps) = .t (ps.map pt) := by
  unfold nK wk
  rw [List.map_map]
  rfl
theorem lts_but {P : Program} {w : World} {H H' : Hp} {a : Addr} {kvs : List (List (List Int) × V)} (d : DN P w H a kvs) (k : But a H H') : LTS H H' := by
  obtain ⟨_, _, xs, _, e⟩ := d
  exact ⟨fun b ys h => k _ _ h (by rintro rfl; rw [e] at h; cases h), fun b ys h => k _ _ h (by rintro rfl; rw [e] at h; cases h)⟩
theorem DN.but {P : Program} {w : World} {H H' : Hp} {a b : Addr} {kvs kvs' : List (List (List Int) × V)} (d : DN P w H a kvs) (e : DN P w H b kvs') (k : But b H H') (n : a ≠ b) : DN P w H' a kvs := by
  obtain ⟨z, y, xs, r, h⟩ := id d
  exact d.keeps ((k _ _ h n).trans h.symm) (lts_but e k).2
def spPw (_ : PySem.W.Frag) : Sp := fun vs H Q _ => ∃ (v : V) (c : Pc), vs = [v] ∧ Is H (pcD c) v ∧ (∀ p ∈ c, inB p = true) ∧ (c.length = 3 ∨ c.length = 4) ∧ Q (.int (pwF c)) H
theorem pw_small {c : Pc} (h : ∀ p ∈ c, inB p = true) (hl : c.length = 3 ∨ c.length = 4) : -(2 ^ 64) < pwF c ∧ pwF c < 2 ^ 64 := by
  unfold pwF
  by_cases e : c.length = 3
  · rw [if_pos e]
    have g : ∀ j, j < c.length → -20 ≤ (c.getD j zP).1 ∧ (c.getD j zP).1 ≤ 20 ∧ -20 ≤ (c.getD j zP).2 ∧ (c.getD j zP).2 ≤ 20 := fun j hj => by
      have := h _ (getD_memP hj)
      unfold inB at this
      simp only [Bool.and_eq_true, decide_eq_true_eq] at this
      omega
    have g0 := g 0 (by omega)
    have g1 := g 1 (by omega)
    have g2 := g 2 (by omega)
    generalize c.getD 0 zP = a at g0
    generalize c.getD 1 zP = b at g1
    generalize c.getD 2 zP = e at g2
    have m : ∀ x y : Int, -40 ≤ x → x ≤ 40 → -40 ≤ y → y ≤ 40 → -1600 ≤ x * y ∧ x * y ≤ 1600 := fun x y a1 a2 b1 b2 => by
      have : (x * y).natAbs ≤ 1600 := by
        rw [Int.natAbs_mul]
        exact Nat.mul_le_mul (show x.natAbs ≤ 40 by omega) (show y.natAbs ≤ 40 by omega)
      omega
    have m1 := m (b.1 - a.1) (e.2 - b.2) (by omega) (by omega) (by omega) (by omega)
    have m2 := m (b.2 - a.2) (e.1 - b.1) (by omega) (by omega) (by omega) (by omega)
    unfold abI crn
    split <;> omega
  · rw [if_neg e]; omega
def spCutP (c : Addr) : Sp := fun vs H Q E => ∃ v wv, vs = [v, wv] ∧ Thing H v ∧ (∀ n : Nat, v = .int n → 1 ≤ n → n ≤ 4 → ∃ ps, Is H (pts ps) wv ∧ okP n ps = true ∧ ∀ (L : List (List Pc)) l H', L.Perm (rawC n ps) → Same H H' → H l = none → Is (nw H H') (.l (L.map cutD)) (.ref l) → Q (.ref l) H') ∧ (¬ Within 1 4 v → E (.ref c) none H)
def spCW (_ : PySem.W.Frag) : Sp := fun vs H Q _ => ∃ (v : V) (cs : List Pc), vs = [v] ∧ Is H (cutD cs) v ∧ (∀ c ∈ cs, PcOk c) ∧ Q (.int (prodC cs)) H
def spPts (c : Addr) : Sp := fun vs H Q E => ∃ v, vs = [v] ∧ Thing H v ∧ (∀ n : Nat, v = .int n → 1 ≤ n → n ≤ 5 → ∀ l H', Same H H' → H l = none → Is H' (pts (ptsOf n)) (.ref l) → Q (.ref l) H') ∧ (¬ Within 1 5 v → E (.ref c) none H)
def spNar (c : Addr) : Sp := fun vs H Q E => ∃ v u, vs = [v, u] ∧ Thing H v ∧ Thing H u ∧ ((∃ d k : Nat, v = .int d ∧ u = .int k ∧ Narrow d k) → Q .non H) ∧ ((¬ ∃ d k : Nat, v = .int d ∧ u = .int k ∧ Narrow d k) → E (.ref c) none H)
def spWays (c : Addr) : Sp := fun vs H Q E => ∃ v u, vs = [v, u] ∧ Thing H v ∧ Thing H u ∧ (∀ d k : Nat, v = .int d → u = .int k → Narrow d k → ∀ l H', Same H H' → H l = none → Is H' (.l ((sW d k).map pts)) (.ref l) → Q (.ref l) H') ∧ ((¬ ∃ d k : Nat, v = .int d ∧ u = .int k ∧ Narrow d k) → E (.ref c) none H)
def spLv (n : Nat) (K : PySem.W.Frag) : Sp := fun vs H Q _ => ∃ (a : Addr) (rs : List V) (k : Nat), vs = [.ref a, .int k] ∧ SqL K H a rs ∧ rs.length < n ∧ rs.length ≤ 20 ∧ ∀ (l : Addr) (us : List V) (H' : Hp), Same H H' → H l = none → H' l = some (.lst us) → Lists H H' (lvA rs k) us → Q (.ref l) H'
def spLWs (_ : PySem.W.Frag) : Sp := fun vs H Q _ => ∃ d k : Nat, vs = [.int d, .int k] ∧ Narrow d k ∧ ∀ l H', Same H H' → H l = none → Is H' (.l ((lwF d k).map pts)) (.ref l) → Q (.ref l) H'
/-! tables of pieces in the heap -/
def ppD (x : Pc × Pc) : D := .t [pcD x.1, pcD x.2]
theorem ts_pp {H H' : Hp} (t : TupS H H') {x : Pc × Pc} {v : V} (h : Is H (ppD x) v) : Is H' (ppD x) v := by
  obtain ⟨a, vs, rfl, ha, hi⟩ := of_t h
  obtain ⟨u1, us, rfl, h1, hi⟩ := of_cons hi
  obtain ⟨u2, us, rfl, h2, hi⟩ := of_cons hi
  rw [of_nil hi] at ha
  exact is_t (t _ _ ha) (iss_cons (ts_pc t h1) (iss_cons (ts_pc t h2) iss_nil))
theorem ts_pps {H H' : Hp} (t : TupS H H') : ∀ {ps : List (Pc × Pc)} {vs : List V}, Iss H (ps.map ppD) vs → Iss H' (ps.map ppD) vs
  | [], _, h => by rw [of_nil h]; exact iss_nil
  | p :: ps, _, h => by
    obtain ⟨u, us, rfl, h1, h2⟩ := of_cons h
    exact iss_cons (ts_pp t h1) (ts_pps t h2)
abbrev GR (H : Hp) : List (Pc × Pc) → List (List (List Int) × V) → Prop := Paired fun p q => q.1 = wk p.1 ∧ Is H (pcD p.2) q.2
section
variable {H H' : Hp} {S : List (Pc × Pc)} {kvs : List (List (List Int) × V)} {k p : Pc} {v : V}
theorem GR.len (r : GR H S kvs) : kvs.length = S.length := (Paired.length r).symm
theorem GR.ts (r : GR H S kvs) (t : TupS H H') : GR H' S kvs := Paired.mapP r fun _ _ z => ⟨z.1, ts_pc t z.2⟩
theorem GR.get (r : GR H S kvs) (hk : k ∈ S.map (·.1)) : ∃ v, valV kvs (wk k) = some v ∧ Is H (pcD (getS S k)) v := by
  induction r with
  | nil => cases hk
  | @cons p q ps qs h t ih =>
    obtain ⟨h1, h2⟩ := h
    by_cases e : p.1 = k
    · exact ⟨q.2, valV_pos (by rw [h1, e]), by rw [getS_pos e]; exact h2⟩
    · have e' : ¬ q.1 = wk k := fun z => e (wk_inj (h1.symm.trans z))
      obtain ⟨v, a, b⟩ := ih (by
        rw [List.map_cons] at hk
        exact (List.mem_cons.mp hk).elim (fun z => absurd z.symm e) id)
      exact ⟨v, by rw [valV_neg e']; exact a, by rw [getS_neg e]; exact b⟩
theorem GR.has (r : GR H S kvs) : (valV kvs (wk k)).isSome = hasS S k := by
  induction r with
  | nil => rfl
  | @cons p q ps qs h t ih =>
    obtain ⟨h1, h2⟩ := h
    show _ = (match cE p.1 k with | true => true | false => hasS ps k)
    by_cases e : p.1 = k
    · rw [valV_pos (by rw [h1, e]), cE_iff.mpr e]; rfl
    · rw [valV_neg fun z => e (wk_inj (h1.symm.trans z)), cE_ne e]; exact ih
theorem GR.new (r : GR H S kvs) (hn : hasS S k = false) (hv : Is H (pcD p) v) : GR H (S ++ [(k, p)]) (putK kvs (wk k) v) := by
  have e := r.has (k := k)
  rw [hn] at e
  rw [putK_new v (by cases z : valV kvs (wk k) with | none => rfl | some _ => rw [z] at e; cases e)]
  exact Paired.snoc r ⟨rfl, hv⟩
theorem GR.repl (r : GR H S kvs) (hv : Is H (pcD p) v) : GR H (S.map fun x => if x.1 = k then (x.1, p) else x) (kvs.map fun kv => if kv.1 = wk k then (kv.1, v) else kv) := by
  induction r with
  | nil => exact .nil
  | @cons a b ps qs h t ih =>
    rw [List.map_cons, List.map_cons]
    refine .cons ?_ ih
    obtain ⟨h1, h2⟩ := h
    by_cases e : a.1 = k
    · rw [if_pos e, if_pos (h1.trans (congrArg wk e))]; exact ⟨h1, hv⟩
    · rw [if_neg e, if_neg fun z => e (wk_inj (h1.symm.trans z))]; exact ⟨h1, h2⟩
theorem GR.mid {A B : List (Pc × Pc)} {q : Pc} (r : GR H (A ++ (k, q) :: B) kvs) (ha : k ∉ A.map (·.1)) (hb : k ∉ B.map (·.1)) (hv : Is H (pcD p) v) : GR H (A ++ (k, p) :: B) (putK kvs (wk k) v) := by
  have e := r.has (k := k)
  rw [hasS_iff.mpr (by simp)] at e
  have same : ∀ {C : List (Pc × Pc)}, k ∉ C.map (·.1) → (C.map fun x => if x.1 = k then (x.1, p) else x) = C := fun {C} h => by
    conv => rhs; rw [← List.map_id C]
    refine List.map_congr_left fun x hx => ?_
    rw [if_neg fun z => h (List.mem_map.mpr ⟨x, hx, z⟩)]
    rfl
  have t := r.repl (k := k) hv
  rw [List.map_append, List.map_cons, same ha, same hb, if_pos rfl] at t
  unfold putK
  rw [valV_any, e]
  exact t
end
def trK (D : List Pc) : List (List (List Int) × V) := D.map fun k => (wk k, V.bl true)
theorem trK_len (D : List Pc) : (trK D).length = D.length := by unfold trK; rw [List.length_map]
theorem trK_val (D : List Pc) (k : Pc) : (valV (trK D) (wk k)).isSome = isS D k := by
  induction D with
  | nil => rfl
  | cons x D ih =>
    show (valV ((wk x, V.bl true) :: trK D) (wk k)).isSome = (match cE x k with | true => true | false => isS D k)
    by_cases e : x = k
    · rw [valV_pos (by rw [e]), cE_iff.mpr e]; rfl
    · rw [valV_neg fun z => e (wk_inj z), cE_ne e]; exact ih
theorem trK_put (D : List Pc) (k : Pc) : putK (trK D) (wk k) (.bl true) = trK (dif1 D k) := by
  have e := trK_val D k
  unfold dif1
  cases q : isS D k with
  | true =>
    rw [q] at e
    unfold putK
    rw [valV_any, e]
    show (trK D).map _ = trK D
    conv => rhs; rw [← List.map_id (trK D)]
    refine List.map_congr_left fun x hx => ?_
    obtain ⟨y, _, rfl⟩ := List.mem_map.mp hx
    show (if wk y = wk k then (wk y, V.bl true) else (wk y, V.bl true)) = (wk y, V.bl true)
    rw [ite_self]
  | false =>
    rw [q] at e
    rw [putK_new _ (by cases z : valV (trK D) (wk k) with | none => rfl | some _ => rw [z] at e; cases e)]
    unfold trK
    rw [List.map_append]
    rfl
theorem trK_keys (D : List Pc) : ((trK D).map fun p => nK p.1) = D.map pcD := by
  unfold trK
  rw [List.map_map]
  refine List.map_congr_left fun x _ => ?_
  exact nK_pts x
theorem pe_ngetK {X : Cx} {o i : Expr} {td ty : TE} {pos : Pos} {P : Program} {w : World} (hP : X.prog = P) (hw : X.w = w) (hu : X.A.units + 2 < cLine) (ho : PE X o td) (hi : PE X i ty) (hs : NoSl i) : PE X (.Subscript o i pos) (tNGet P w td ty) := by
  subst hP hw
  exact pe_nget hu ho hi hs
def spSid (_ : PySem.W.Frag) : Sp := fun vs H Q _ => ∃ (v : V) (c : Pc), vs = [v] ∧ Is H (pcD c) v ∧ PcOk c ∧ ∀ l H', Same H H' → H l = none → Is H' (.l ((sidF c).map pcD)) (.ref l) → Q (.ref l) H'
def spGat (P : Program) (w : World) : Sp := fun vs H Q _ => ∃ (v1 v2 : V) (xs : List Pc) (ps : List (Pc × Pc)), vs = [v1, v2] ∧ Is H (.l (xs.map pcD)) v1 ∧ Is H (.l (ps.map ppD)) v2 ∧ xs.Nodup ∧ xs.length ≤ 1000 ∧ (∀ x ∈ ps, x.1 ∈ xs ∧ x.2 ∈ xs) ∧ ∀ a H' kvs, Same H H' → H a = none → DN P w H' a kvs → GR H' (gthF (twice xs) ps) kvs → Q (.ref a) H'
def spSets (P : Program) (w : World) : Sp := fun vs H Q _ => ∃ (v1 v2 : V) (xs : List Pc) (ps : List (Pc × Pc)), vs = [v1, v2] ∧ Is H (.l (xs.map pcD)) v1 ∧ Is H (.l (ps.map ppD)) v2 ∧ xs.Nodup ∧ xs.length ≤ 1000 ∧ (∀ x ∈ ps, x.1 ∈ xs ∧ x.2 ∈ xs) ∧ ∀ H', Same H H' → Q (.int (setsF xs ps)) H'
def spThr (P : Program) (w : World) : Sp := fun vs H Q _ => ∃ (v : V) (cs : List Pc), vs = [v] ∧ Is H (cutD cs) v ∧ Cut cs ∧ ∀ a H' kvs, Same H H' → H a = none → DN P w H' a kvs → GR H' (thrF cs) kvs → Q (.ref a) H'
def spCor (_ : PySem.W.Frag) : Sp := fun vs H Q _ => ∃ (v : V) (cs : List Pc), vs = [v] ∧ Is H (cutD cs) v ∧ Cut cs ∧ ∀ l H', Same H H' → H l = none → Is H' (.l ((corF cs).map pcD)) (.ref l) → Q (.ref l) H'
def spJoi (_ : PySem.W.Frag) : Sp := fun vs H Q _ => ∃ (v : V) (cs : List Pc), vs = [v] ∧ Is H (cutD cs) v ∧ Cut cs ∧ ∀ l H', Same H H' → H l = none → Is H' (.l ((joiF cs).map ppD)) (.ref l) → Q (.ref l) H'
def spInt (f : List Pc → Int) : Sp := fun vs H Q _ => ∃ (v : V) (cs : List Pc), vs = [v] ∧ Is H (cutD cs) v ∧ Cut cs ∧ ∀ H', Same H H' → Q (.int (f cs)) H'
def sdD (a : List Pc) : D := .l (a.map pcD)
def arD (A : List (List Pc)) : D := .l (A.map sdD)
def prI (x : Nat × Nat) : D := .t [.i (x.1 : Int), .i (x.2 : Int)]
def ArOk (A : List (List Pc)) : Prop := A.length ≤ 100 ∧ ∀ a ∈ A, a.length = 3 ∨ a.length = 4
def spLsd (_ : PySem.W.Frag) : Sp := fun vs H Q _ => ∃ (v : V) (c : Pc), vs = [v] ∧ Is H (pcD c) v ∧ PcOk c ∧ ∀ l H', Same H H' → H l = none → Is H' (sdD (lsdF c)) (.ref l) → Q (.ref l) H'
def spLen (_ : PySem.W.Frag) : Sp := fun vs H Q _ => ∃ (v sv : V) (A : List (List Pc)) (p : Nat) (s : Pc), vs = [v, .int p, sv] ∧ Is H (arD A) v ∧ Is H (pcD s) sv ∧ ArOk A ∧ ∀ H', Same H H' → Q (.int (endF A p s)) H'
def spLjo (_ : PySem.W.Frag) : Sp := fun vs H Q _ => ∃ (v : V) (cs : List Pc), vs = [v] ∧ Is H (cutD cs) v ∧ Cut cs ∧ ∀ l H', Same H H' → H l = none → Is H' (.l ((ljoF cs).map prI)) (.ref l) → Q (.ref l) H'
def spLpa (_ : PySem.W.Frag) : Sp := fun vs H Q _ => ∃ (v1 v2 : V) (cs : List Pc) (ps : List (Nat × Nat)), vs = [v1, v2] ∧ Is H (cutD cs) v1 ∧ Is H (.l (ps.map prI)) v2 ∧ Cut cs ∧ (∀ x ∈ ps, x.1 < cs.length ∧ x.2 < cs.length) ∧ ∀ H', Same H H' → Q (.int (lpaF cs ps)) H'
theorem op_inDK {X : Cx} {K : PySem.W.Frag} {k : Nat} (h : X.K = K) (hr : Room k X.A) : OpR X (compareOp .In) (rInD K false) := h ▸ op_inD hr
theorem nd_take {α : Type} {xs : List α} {x : α} {i : Nat} (nd : xs.Nodup) (h : xs[i]? = some x) : x ∉ xs.take i := by
  obtain ⟨hi, e⟩ := List.getElem?_eq_some_iff.mp h
  intro hm
  obtain ⟨j, hj, ej⟩ := List.mem_iff_getElem.mp hm
  rw [List.length_take] at hj
  rw [List.getElem_take] at ej
  have := (List.getElem_inj (h₀ := by omega) (h₁ := hi) nd).mp (ej.trans e.symm)
  omega
theorem nd_mid {S : List (Pc × Pc)} {y : Pc × Pc} {j : Nat} (nd : (S.map (·.1)).Nodup) (h : S[j]? = some y) : y.1 ∉ (S.take j).map (·.1) ∧ y.1 ∉ (S.drop (j + 1)).map (·.1) := by
  have e : S = S.take j ++ y :: S.drop (j + 1) := by rw [← drop_next h, List.take_append_drop]
  rw [e, List.map_append, List.map_cons] at nd
  obtain ⟨n1, n2, n3⟩ := List.nodup_append.mp nd
  exact ⟨fun z => n3 _ z _ List.mem_cons_self rfl, (List.nodup_cons.mp n2).1⟩
theorem last_at {p : Pt} : ∀ {c : List Pt}, c ≠ [] → (c.map pt)[c.length - 1]? = some (pt (c.getLastD p)) := by
  intro c h
  rw [List.getElem?_map, List.getLastD_eq_getLast?, List.getLast?_eq_getElem?, List.getElem?_eq_getElem (by have := List.length_pos_iff.mpr h; omega)]
  rfl
def spWhole (c : Addr) : Sp := fun vs H Q E => ∃ v u, vs = [v, u] ∧ Thing H v ∧ Thing H u ∧ (∀ d k : Nat, v = .int d → u = .int k → Narrow d k → ∀ H', Same H H' → Q (.int (totC d (lwF d k))) H') ∧ ((¬ ∃ d k : Nat, v = .int d ∧ u = .int k ∧ Narrow d k) → E (.ref c) none H)
def spLDue (_ : PySem.W.Frag) : Sp := fun vs H Q _ => ∃ d k : Nat, vs = [.int d, .int k] ∧ Narrow d k ∧ d ≤ 3 ∧ ∀ H', Same H H' → Q (.int (totC d (lwF d k))) H'
def spLRef (_ : PySem.W.Frag) : Sp := fun vs H Q _ => ∃ v u, vs = [v, u] ∧ Thing H v ∧ Thing H u ∧ (¬ ∃ d k : Nat, v = .int d ∧ u = .int k ∧ Narrow d k) ∧ ∀ H', Same H H' → Q (.bl true) H'
section
variable {P : Program} {w : World} {K : PySem.W.Frag} {mg : Str → Option Value} {base : Heap} (T : Fns K mg)
theorem ok__law_cell_at : FnOk P w K mg base CX0 1 T.f__law_cell_at T.d__law_cell_at ["_law_script", "_law_k"] (spCell K) := by
  refine T.F__law_cell_at.ok sc__law_cell_at (fun vs H Q E h => ?_) (fun cdv A outer s H vs Q E hr h => ?_)
  · obtain ⟨_, _, _, rfl, _⟩ := h
    rfl
  · obtain ⟨a, ns, k, rfl, hS, h0, kk⟩ := h
    refine ⟨_, (pss_cons (ps_if (pt_cmpR op_lt (pv 1) (pe_callB call_len_seq (by rfl) T.n_len boot_len (pa_cons (pv 0) pa_nil)) (nomark _)) (pss_one (ps_ret (pe_ix ix_list (pv 0) (pv 1) (fun _ _ => rfl)))) pss_nil)
      (pss_one (ps_ret pe_int))), ?_⟩
    refine ⟨_, rfl, _, rfl, a, _, rfl, .inl hS, _, _, rfl, rfl, _, rfl, ?_⟩
    refine iteD (fun h => ?_) (fun _ => kk 0)
    rw [List.length_map] at h
    have hk : k.toNat < ns.length := by omega
    refine ⟨_, rfl, _, rfl, a, _, k, .int ns[k.toNat], rfl, rfl, hS, ?_, kk _⟩
    have e : ((k.toNat : Nat) : Int) = k := by omega
    have := atI_nat (xs := ns.map V.int) (j := k.toNat) (v := .int ns[k.toNat]) (by simp [hk])
    rw [e] at this
    exact this
theorem ok__law_number : FnOk P w K mg base CX0 2 T.f__law_number T.d__law_number ["_law_script", "_law_k"] (spNumber K) := by
  refine T.F__law_number.ok sc__law_number (fun vs H Q E h => ?_) (fun cdv A outer s H vs Q E hr h => ?_)
  · obtain ⟨_, _, _, rfl, _⟩ := h
    rfl
  · obtain ⟨a, ns, k, rfl, hS, h0, h1, kk⟩ := h
    refine ⟨_, (pss_cons (ps_set (i := 2) sc__law_number.nd rfl (by first | exact Or.inl rfl | exact Or.inr rfl) (pe_call (ok__law_cell_at T) (hr.mono (by decide)) (by rfl) T.m__law_cell_at T.F__law_cell_at.kp T.B__law_cell_at .nil pass0 (pa_cons (pv 0) (pa_cons (pv 1) pa_nil))))
      (pss_cons (ps_if (pt_cmpR op_ge (pe_callB call_abs (by rfl) T.n_abs boot_abs (pa_cons (pv 2) pa_nil)) (pe_op op_pow pe_int pe_int) (nomark _)) (pss_one (ps_ret (pe_callB call_abs (by rfl) T.n_abs boot_abs (pa_cons (pv 2) pa_nil)))) pss_nil)
      (pss_cons (ps_set (i := 3) sc__law_number.nd rfl (by first | exact Or.inl rfl | exact Or.inr rfl) (pe_op op_mod (pe_op op_add (pe_op op_add (pe_op op_add (pe_op op_mul (pv 2) (pe_op op_add (pe_op op_mul pe_int (pv 1)) pe_int)) (pe_op op_mul (pe_op op_mul pe_int (pv 1)) (pv 1))) (pe_op op_mul pe_int (pv 1))) pe_int) pe_int))
      (pss_cons (ps_set (i := 3) sc__law_number.nd rfl (by first | exact Or.inl rfl | exact Or.inr rfl) (pe_op op_mod (pe_op op_add (pe_op op_mul (pv 3) pe_int) pe_int) pe_int))
      (pss_cons (ps_set (i := 4) sc__law_number.nd rfl (by first | exact Or.inl rfl | exact Or.inr rfl) (pe_op op_mod (pe_op op_add (pe_op op_add (pe_op op_mul (pv 3) pe_int) (pe_op op_mul pe_int (pv 1))) pe_int) pe_int))
      (pss_one (ps_ret (pe_op op_add (pe_op op_mul (pv 3) pe_int) (pe_op op_mul (pv 4) (pe_op op_add (pe_op op_mod (pv 3) pe_int) pe_int)))))))))), ?_⟩
    refine ⟨_, rfl, _, rfl, a, ns, k, rfl, hS, h0, fun z => ?_⟩
    refine ⟨_, rfl, z, rfl, 10, 18, rfl, rfl, ⟨by decide, by decide, by decide⟩, _, _, rfl, rfl, _, rfl, ?_⟩
    refine iteD (fun _ => ?_) (fun _ => ?_)
    · exact ⟨_, rfl, z, rfl, kk _ (by split <;> omega)⟩
    · refine ⟨_, rfl, _, rfl, _, _, rfl, rfl, .inl ⟨by decide, by decide⟩, _, _, rfl, rfl, _, _, rfl, rfl, .inr ⟨by omega, by omega⟩, ?_⟩
      refine ⟨_, rfl, _, _, rfl, rfl, .inl ⟨by decide, by decide⟩, _, rfl, _, _, rfl, rfl, .inr ⟨by omega, by omega⟩, _, _, rfl, rfl, ?_⟩
      refine ⟨_, rfl, _, _, rfl, rfl, .inl ⟨by decide, by decide⟩, _, _, rfl, rfl, _, _, rfl, rfl, _, _, rfl, rfl, (show (0 : Int) < 2147483629 by decide), ?_⟩
      refine ⟨_, rfl, _, _, rfl, rfl, .inr ⟨by decide, by decide⟩, _, _, rfl, rfl, _, _, rfl, rfl, (show (0 : Int) < 2147483647 by decide), ?_⟩
      dsimp only
      generalize (z * (2 * k + 3) + 7919 * k * k + 104729 * k + 12345) % 2147483629 = u
      have e1 : 0 ≤ (u * 48271 + 97) % 2147483647 := by omega
      generalize (u * 48271 + 97) % 2147483647 = v at e1 ⊢
      refine ⟨_, rfl, _, _, rfl, rfl, .inr ⟨by decide, by decide⟩, _, rfl, _, _, rfl, rfl, .inl ⟨by decide, by decide⟩, _, _, rfl, rfl, _, _, rfl, rfl, _, _, rfl, rfl, (show (0 : Int) < 998244353 by decide), ?_⟩
      dsimp only
      have e2 : 0 ≤ (v * 69621 + 31 * k + 7) % 998244353 := by omega
      generalize (v * 69621 + 31 * k + 7) % 998244353 = x at e2 ⊢
      refine ⟨_, rfl, _, _, rfl, rfl, .inr ⟨by decide, by decide⟩, _, rfl, _, rfl, _, _, rfl, rfl, (show (0 : Int) < 1009 by decide), _, _, rfl, rfl, _, _, rfl, rfl, .inr ⟨by omega, by omega⟩, _, _, rfl, rfl, ?_⟩
      exact kk _ (Int.add_nonneg (by omega) (Int.mul_nonneg e2 (by omega)))
theorem ok_is_whole : FnOk P w K mg base CX0 1 T.f_is_whole T.d_is_whole ["thing"] sp_whole := by
  refine T.F_is_whole.ok sc_is_whole (fun vs H Q E h => ?_) (fun cdv A outer s H vs Q E hr h => ?_)
  · obtain ⟨_, rfl, _⟩ := h
    rfl
  · obtain ⟨v, rfl, ht, kk⟩ := h
    refine ⟨_, (pss_one (ps_ret (pe_and (pe_callB call_isi (by rfl) T.n_isinstance boot_isinstance (pa_cons (pv 0) (pa_cons (pe_bltn (v := .ty "int") (by rfl) T.n_int boot_int (by rfl)) pa_nil))) (pe_one (pe_not (pe_callB call_isi (by rfl) T.n_isinstance boot_isinstance (pa_cons (pv 0) (pa_cons (pe_bltn (v := .ty "bool") (by rfl) T.n_bool boot_bool (by rfl)) pa_nil)))))))), ?_⟩
    rcases ht with ⟨i, rfl⟩ | ⟨b, rfl⟩ | rfl | ⟨x, rfl⟩ | ⟨a, xs, rfl, ha⟩ | ⟨a, xs, rfl, ha⟩
    · exact ⟨_, rfl, _, "int", _, true, rfl, .int i, kit_same, true, rfl, iteT ⟨_, rfl, _, "bool", _, false, rfl, .int i, kit_int_bool, false, rfl, kk⟩⟩
    · exact ⟨_, rfl, _, "int", _, true, rfl, .bl b, kit_bool_int, true, rfl, iteT ⟨_, rfl, _, "bool", _, true, rfl, .bl b, kit_same, true, rfl, kk⟩⟩
    · exact ⟨_, rfl, _, "int", _, false, rfl, .non, kit_none_int, false, rfl, iteF kk⟩
    · exact ⟨_, rfl, _, "int", _, false, rfl, .str x, kit_str_int, false, rfl, iteF kk⟩
    · exact ⟨_, rfl, _, "int", _, false, rfl, .lst ha, kit_list_int, false, rfl, iteF kk⟩
    · exact ⟨_, rfl, _, "int", _, false, rfl, .tup ha, kit_tuple_int, false, rfl, iteF kk⟩
theorem ok_need_between : FnOk P w K mg base (CX1 P w) 2 T.f_need_between T.d_need_between ["thing", "least", "greatest"] (spBet T.c_NoBound) := by
  refine T.F_need_between.okx sc_need_between (fun vs H Q E h => ?_) (fun cdv A outer s H vs Q E hr h hR hp => ?_)
  · obtain ⟨_, _, _, rfl, _⟩ := h
    rfl
  · obtain ⟨v, lo, hi, rfl, ht, hb, kk, ke⟩ := h
    refine ⟨_, (pss_one (ps_if (pw_or (pt_not (pt_val (pe_call (ok_is_whole T) (hr.mono (by decide)) (by rfl) T.m_is_whole T.F_is_whole.kp T.B_is_whole .nil pass0 (pa_cons (pv 0) pa_nil)))) (pw_or (pt_cmpR op_lt (pv 0) (pv 1) (nomark _)) (pw_or1 (pt_cmpR op_gt (pv 0) (pv 2) (nomark _))))).pt (pss_one (ps_raise hR (by rfl) T.m_NoBound T.x_NoBound rfl (pa_cons (pe_fstr (pj_cons pe_str (pj_cons (pe_fint (pv 1)) (pj_cons pe_str (pj_cons (pe_fint (pv 2)) pj_nil))))) pa_nil))) pss_nil)), ?_⟩
    have say : ∀ (R : VK), (∀ z, R (.str z) H) → tJc (tC (.str "not a whole number from ")) (tJc (fun σ H Q => tVar 1 σ H fun x H1 => ∃ i, x = .int i ∧ i.natAbs.log2 < 1920 ∧ Q (.str (toString i)) H1) (tJc (tC (.str " to ")) (tJc (fun σ H Q => tVar 2 σ H fun x H1 => ∃ i, x = .int i ∧ i.natAbs.log2 < 1920 ∧ Q (.str (toString i)) H1) tJn)))
        Str.empty [some v, some (.int lo), some (.int hi)] H R := fun R hr => by
      rcases hb with ⟨rfl, rfl⟩ | ⟨rfl, rfl⟩ | ⟨rfl, rfl⟩ | ⟨rfl, rfl⟩ <;>
        exact ⟨_, rfl, by decide +kernel, _, rfl, _, rfl, by decide +kernel, _, rfl, by decide +kernel, _, rfl, by decide +kernel, _, rfl, _, rfl, by decide +kernel, _, rfl, by decide +kernel, by decide +kernel, hr _⟩
    have no : ¬ Within lo hi v → ∀ D : Ends, tRaise T.c_NoBound E (tCons (fun σ H Q => tJc (tC (.str "not a whole number from ")) (tJc (fun σ H Q => tVar 1 σ H fun x H1 => ∃ i, x = .int i ∧ i.natAbs.log2 < 1920 ∧ Q (.str (toString i)) H1) (tJc (tC (.str " to ")) (tJc (fun σ H Q => tVar 2 σ H fun x H1 => ∃ i, x = .int i ∧ i.natAbs.log2 < 1920 ∧ Q (.str (toString i)) H1) tJn)))
        Str.empty σ H Q) tNil) D [some v, some (.int lo), some (.int hi)] H := fun hn D => say _ fun z => ⟨(by show 1 ≤ sizeLine; decide), ke hn⟩
    refine ⟨v, rfl, v, rfl, ht, isI v, rfl, ?_⟩
    cases hv : isI v with
    | false => exact iteT (iteT (no (fun hw => by rw [within_int hw] at hv; cases hv) _))
    | true =>
      obtain ⟨i, rfl⟩ : ∃ i, v = .int i := by
        cases v <;> first | exact ⟨_, rfl⟩ | cases hv
      refine iteF ⟨_, rfl, _, rfl, i, lo, rfl, rfl, _, rfl, iteD (fun hl => ?_) (fun hl => ?_)⟩
      · exact iteT (no (fun ⟨j, e, h1, h2⟩ => by cases e; omega) _)
      · refine ⟨_, rfl, _, rfl, i, hi, rfl, rfl, _, rfl, iteD (fun hg => ?_) (fun hg => ?_)⟩
        · exact no (fun ⟨j, e, h1, h2⟩ => by cases e; omega) _
        · exact kk ⟨i, rfl, by omega, by omega⟩
theorem ok_need_degree : FnOk P w K mg base (CX1 P w) 3 T.f_need_degree T.d_need_degree ["d"] (spDeg T.c_NoBound) := by
  refine T.F_need_degree.okx sc_need_degree (fun vs H Q E h => ?_) (fun cdv A outer s H vs Q E hr h hR hp => ?_)
  · obtain ⟨_, rfl, _⟩ := h
    rfl
  · obtain ⟨v, rfl, ht, kk, ke⟩ := h
    refine ⟨_, (pss_one (ps_expr (pe_call (ok_need_between T) (hr.mono (by decide)) (by rfl) T.m_need_between T.F_need_between.kp T.B_need_between .nil hp (pa_cons (pv 0) (pa_cons pe_int (pa_cons pe_int pa_nil)))))), ?_⟩
    exact ⟨v, rfl, v, 1, 5, rfl, ht, .inl ⟨rfl, rfl⟩, kk, ke⟩
theorem ok_upper_edge : FnOk P w K mg base (CX1 P w) 4 T.f_upper_edge T.d_upper_edge ["d"] (spEdge T.c_NoBound upE) := by
  refine T.F_upper_edge.okx sc_upper_edge (fun vs H Q E h => ?_) (fun cdv A outer s H vs Q E hr h hR hp => ?_)
  · obtain ⟨_, rfl, _⟩ := h
    rfl
  · obtain ⟨v, rfl, ht, kk, ke⟩ := h
    refine ⟨_, (pss_cons (ps_expr (pe_call (ok_need_degree T) (hr.mono (by decide)) (by rfl) T.m_need_degree T.F_need_degree.kp T.B_need_degree .nil hp (pa_cons (pv 0) pa_nil)))
      (pss_one (ps_ret (pe_compB (XN := ["d"]) (sc := defScope s_upper_edge) (N := ["x", "d"]) (own := 1) (js := [0]) rfl (by decide +kernel) rfl rfl (pi_range1 (by rfl) T.n_range (pa_cons (pe_op op_add (pv 0) pe_int) pa_nil)) (fun _ _ _ _ => (pg_name (i := 0) (show List.Nodup (["x", "d"] : List Str) by decide +kernel) rfl (Or.inl rfl) (.inr rfl))) (ownG_name (by decide)) (fun _ _ _ _ => pifs_nil) (fun _ _ _ _ => (pe_tupN (pa_cons (pv 0) (pa_cons (pe_op op_sub (pv 1) (pv 0)) pa_nil)))))))), ?_⟩
    refine ⟨v, rfl, v, rfl, ht, fun ⟨i, ei, i1, i2⟩ => ?_, ke⟩
    subst ei
    obtain ⟨d, rfl⟩ := Int.eq_ofNat_of_zero_le (show 0 ≤ i by omega)
    have kk := kk d rfl (by omega) (by omega)
    refine ⟨_, rfl, _, _, rfl, rfl, _, rfl, by omega, by omega, fun acc na => ?_⟩
    have en : ((d : Int) + 1).toNat = d + 1 := by omega
    rw [en]
    refine comp_range (lo := 0) (n := d + 1) (own := 1) (js := [0]) (fun i H2 => Same H H2 ∧ Grow H2 acc (((List.range i).map fun i : Nat => ((i : Int), (d : Int) - (i : Int))).map pt)) ⟨Same.new na, Grow.start⟩ ?_ ?_ mono_name mono_yes ?_
    · rintro i H2 hi ⟨s2, vs, hacc, hvs⟩
      refine yesN ?_
      refine ⟨_, rfl, _, rfl, _, rfl, _, _, rfl, rfl, (by show 2 ≤ sizeLine; decide), fun t H3 nt s3 ht3 => ?_⟩
      refine ⟨acc, vs, _, rfl, rfl, s3 _ _ hacc, small1000 (by rw [hvs.length]; simp; omega), (s2.trans s3).put na, ?_⟩
      rw [List.range_succ, List.map_append, List.map_append, Int.zero_add] at *
      exact grow_add (hvs.mono (hid_mono s3)) (is_pt (p := ((i : Int), (d : Int) - i)) (by rw [hid_at (ne_of_none hacc nt).symm]; exact ht3))
    · rintro H2 ⟨s2, g⟩
      exact kk acc H2 s2 na g.is
    · rintro σ H R R' k ⟨v1, e1, v2, e2, v3, e3, i2, j2, e4, e5, e6, h⟩
      exact ⟨v1, e1, v2, e2, v3, e3, i2, j2, e4, e5, e6, fun p H2 np s2 hp => k _ _ (h p H2 np s2 hp)⟩
theorem ok_lower_edge : FnOk P w K mg base (CX1 P w) 4 T.f_lower_edge T.d_lower_edge ["d"] (spEdge T.c_NoBound loE) := by
  refine T.F_lower_edge.okx sc_lower_edge (fun vs H Q E h => ?_) (fun cdv A outer s H vs Q E hr h hR hp => ?_)
  · obtain ⟨_, rfl, _⟩ := h
    rfl
  · obtain ⟨v, rfl, ht, kk, ke⟩ := h
    refine ⟨_, (pss_cons (ps_expr (pe_call (ok_need_degree T) (hr.mono (by decide)) (by rfl) T.m_need_degree T.F_need_degree.kp T.B_need_degree .nil hp (pa_cons (pv 0) pa_nil)))
      (pss_cons (ps_setcB (i := 1) sc_lower_edge.nd rfl (by first | exact Or.inl rfl | exact Or.inr rfl) (.inl rfl) (XN := ["d", "down"]) (sc := defScope s_lower_edge) (N := ["step", "d"]) (own := 1) (js := [0]) rfl (by decide +kernel) rfl rfl (pi_range1 (by rfl) T.n_range (pa_cons (pe_op op_add (pv 0) pe_int) pa_nil)) (fun _ _ _ _ => (pg_name (i := 0) (show List.Nodup (["step", "d"] : List Str) by decide +kernel) rfl (Or.inl rfl) (.inr rfl))) (ownG_name (by decide)) (fun _ _ _ _ => pifs_nil) (fun _ _ _ _ => (pe_tupN (pa_cons pe_int (pa_cons (pe_op op_sub (pv 1) (pv 0)) pa_nil)))))
      (pss_one (ps_ret (pe_op op_catN (pv 1) (pe_compB (XN := ["d", "down"]) (sc := defScope s_lower_edge) (N := ["x"]) (own := 1) (js := []) rfl (by decide +kernel) rfl rfl (pi_range2 (by rfl) T.n_range (pa_cons pe_int (pa_cons (pe_op op_add (pv 0) pe_int) pa_nil))) (fun _ _ _ _ => (pg_name (i := 0) (show List.Nodup (["x"] : List Str) by decide +kernel) rfl (Or.inl rfl) (.inr rfl))) (ownG_name (by decide)) (fun _ _ _ _ => pifs_nil) (fun _ _ _ _ => (pe_tupN (pa_cons (pv 0) (pa_cons pe_int pa_nil)))))))))), ?_⟩
    refine ⟨v, rfl, v, rfl, ht, fun ⟨i, ei, i1, i2⟩ => ?_, ke⟩
    subst ei
    obtain ⟨d, rfl⟩ := Int.eq_ofNat_of_zero_le (show 0 ≤ i by omega)
    have kk := kk d rfl (by omega) (by omega)
    refine ⟨_, rfl, _, _, rfl, rfl, _, rfl, by omega, by omega, fun acc na => ?_⟩
    have en : ((d : Int) + 1).toNat = d + 1 := by omega
    rw [en]
    refine comp_range (lo := 0) (n := d + 1) (own := 1) (js := [0]) (fun i H2 => Same H H2 ∧ Grow H2 acc (((List.range i).map fun i : Nat => ((0 : Int), (d : Int) - (i : Int))).map pt)) ⟨Same.new na, Grow.start⟩ ?_ ?_ mono_name mono_yes ?_
    · rintro i H2 hi ⟨s2, vs, hacc, hvs⟩
      refine yesN ?_
      refine ⟨_, rfl, _, rfl, _, _, rfl, rfl, (by show 2 ≤ sizeLine; decide), fun t H3 nt s3 ht3 => ?_⟩
      refine ⟨acc, vs, _, rfl, rfl, s3 _ _ hacc, small1000 (by rw [hvs.length]; simp; omega), (s2.trans s3).put na, ?_⟩
      rw [List.range_succ, List.map_append, List.map_append, Int.zero_add] at *
      exact grow_add (hvs.mono (hid_mono s3)) (is_pt (p := ((0 : Int), (d : Int) - i)) (by rw [hid_at (ne_of_none hacc nt).symm]; exact ht3))
    · rintro H2 ⟨s2, g2⟩
      refine ⟨_, rfl, _, rfl, _, _, rfl, rfl, 1, _, rfl, ⟨by omega, by omega, by omega, by omega⟩, fun acc2 na2 => ?_⟩
      have en2 : ((d : Int) + 1 - 1).toNat = d := by omega
      rw [en2]
      refine comp_range (lo := 1) (n := d) (own := 1) (js := []) (fun i H3 => Same H2 H3 ∧ Grow H3 acc2 (((List.range i).map fun i : Nat => ((1 : Int) + (i : Int), (0 : Int))).map pt)) ⟨Same.new na2, Grow.start⟩ ?_ ?_ mono_name mono_yes ?_
      · rintro i H3 hi ⟨s3, vs, hacc, hvs⟩
        refine yesN ?_
        refine ⟨_, rfl, (by show 2 ≤ sizeLine; decide), fun t H4 nt s4 ht4 => ?_⟩
        refine ⟨acc2, vs, _, rfl, rfl, s4 _ _ hacc, small1000 (by rw [hvs.length]; simp; omega), (s3.trans s4).put na2, ?_⟩
        rw [List.range_succ, List.map_append, List.map_append] at *
        exact grow_add (hvs.mono (hid_mono s4)) (is_pt (p := ((1 : Int) + (i : Int), (0 : Int))) (by rw [hid_at (ne_of_none hacc nt).symm]; exact ht4))
      · rintro H3 ⟨s3, g3⟩
        refine ⟨_, _, (g2.mono s3).is, g3.is, Nat.le_of_lt (small1000 (by simp; omega)), fun p H4 np s4 hp4 => ?_⟩
        rw [← List.map_append] at hp4
        exact kk p H4 ((s2.trans s3).trans s4) ((s2.trans s3).free np) hp4
      · rintro σ H R R' k ⟨v1, e1, e6, h⟩
        exact ⟨v1, e1, e6, fun p H2 np s2 hp => k _ _ (h p H2 np s2 hp)⟩
    · rintro σ H R R' k ⟨v1, e1, v2, e2, i2, j2, e4, e5, e6, h⟩
      exact ⟨v1, e1, v2, e2, i2, j2, e4, e5, e6, fun p H2 np s2 hp => k _ _ (h p H2 np s2 hp)⟩
theorem ok_corner : FnOk P w K mg base CX0 1 T.f_corner T.d_corner ["a", "b", "c"] (spCrn K) := by
  refine T.F_corner.ok sc_corner (fun vs H Q E h => ?_) (fun cdv A outer s H vs Q E hr h => ?_)
  · obtain ⟨_, _, _, _, _, _, rfl, _⟩ := h
    rfl
  · obtain ⟨a, b, c, p, q, r, rfl, ha, hb, hc, i1, i2, i3, kk⟩ := h
    refine ⟨_, (pss_one (ps_ret (pe_op op_sub (pe_op op_mul (pe_op op_sub (pe_ix ix_tupN (pv 1) pe_int (fun _ _ => rfl)) (pe_ix ix_tupN (pv 0) pe_int (fun _ _ => rfl))) (pe_op op_sub (pe_ix ix_tupN (pv 2) pe_int (fun _ _ => rfl)) (pe_ix ix_tupN (pv 1) pe_int (fun _ _ => rfl)))) (pe_op op_mul (pe_op op_sub (pe_ix ix_tupN (pv 1) pe_int (fun _ _ => rfl)) (pe_ix ix_tupN (pv 0) pe_int (fun _ _ => rfl))) (pe_op op_sub (pe_ix ix_tupN (pv 2) pe_int (fun _ _ => rfl)) (pe_ix ix_tupN (pv 1) pe_int (fun _ _ => rfl))))))), ?_⟩
    unfold inB at i1 i2 i3
    simp only [Bool.and_eq_true, decide_eq_true_eq] at i1 i2 i3
    refine ⟨_, rfl, _, 0, _, hb, rfl, rfl, fun u hu => ?_⟩
    rw [of_i hu]
    refine ⟨_, rfl, _, 0, _, ha, rfl, rfl, fun u hu => ?_⟩
    rw [of_i hu]
    refine ⟨_, _, rfl, rfl, _, rfl, _, 1, _, hc, rfl, rfl, fun u hu => ?_⟩
    rw [of_i hu]
    refine ⟨_, rfl, _, 1, _, hb, rfl, rfl, fun u hu => ?_⟩
    rw [of_i hu]
    refine ⟨_, _, rfl, rfl, _, _, rfl, rfl, .inr ⟨by omega, by omega⟩, _, rfl, _, 1, _, hb, rfl, rfl, fun u hu => ?_⟩
    rw [of_i hu]
    refine ⟨_, rfl, _, 1, _, ha, rfl, rfl, fun u hu => ?_⟩
    rw [of_i hu]
    refine ⟨_, _, rfl, rfl, _, rfl, _, 0, _, hc, rfl, rfl, fun u hu => ?_⟩
    rw [of_i hu]
    refine ⟨_, rfl, _, 0, _, hb, rfl, rfl, fun u hu => ?_⟩
    rw [of_i hu]
    exact ⟨_, _, rfl, rfl, _, _, rfl, rfl, .inr ⟨by omega, by omega⟩, _, _, rfl, rfl, kk⟩
theorem ok_is_point : FnOk P w K mg base CX0 1 T.f_is_point T.d_is_point ["d", "point"] (spIsP K) := by
  refine T.F_is_point.ok sc_is_point (fun vs H Q E h => ?_) (fun cdv A outer s H vs Q E hr h => ?_)
  · obtain ⟨_, _, _, rfl, _⟩ := h
    rfl
  · obtain ⟨d, v, p, rfl, hv, kk⟩ := h
    refine ⟨_, (pss_one (ps_ret (pe_and (pe_cmpR op_ge (pe_ix ix_tupN (pv 1) pe_int (fun _ _ => rfl)) pe_int (nomark _)) (pe_and (pe_cmpR op_ge (pe_ix ix_tupN (pv 1) pe_int (fun _ _ => rfl)) pe_int (nomark _)) (pe_one (pe_cmpR op_le (pe_op op_add (pe_ix ix_tupN (pv 1) pe_int (fun _ _ => rfl)) (pe_ix ix_tupN (pv 1) pe_int (fun _ _ => rfl))) (pv 0) (nomark _))))))), ?_⟩
    unfold isPt at kk
    refine ⟨_, rfl, _, 0, _, hv, rfl, rfl, fun u hu => ?_⟩
    rw [of_i hu]
    refine ⟨_, _, rfl, rfl, _, rfl, iteD (fun c1 => ?_) (fun c1 => ?_)⟩
    · rw [decide_eq_true (show p.1 ≥ 0 from c1), Bool.true_and] at kk
      refine ⟨_, rfl, _, 1, _, hv, rfl, rfl, fun u hu => ?_⟩
      rw [of_i hu]
      refine ⟨_, _, rfl, rfl, _, rfl, iteD (fun c2 => ?_) (fun c2 => ?_)⟩
      · rw [decide_eq_true (show p.2 ≥ 0 from c2), Bool.true_and] at kk
        refine ⟨_, rfl, _, 0, _, hv, rfl, rfl, fun u hu => ?_⟩
        rw [of_i hu]
        refine ⟨_, rfl, _, 1, _, hv, rfl, rfl, fun u hu => ?_⟩
        rw [of_i hu]
        exact ⟨_, _, rfl, rfl, _, rfl, _, _, rfl, rfl, kk⟩
      · rw [decide_eq_false (show ¬ p.2 ≥ 0 from c2), Bool.false_and] at kk
        exact kk
    · rw [decide_eq_false (show ¬ p.1 ≥ 0 from c1), Bool.false_and] at kk
      exact kk
theorem ok_first_turn : FnOk P w K mg base CX0 2 T.f_first_turn T.d_first_turn ["way", "side"] (spTurn K) := by
  refine T.F_first_turn.ok sc_first_turn (fun vs H Q E h => ?_) (fun cdv A outer s H vs Q E hr h => ?_)
  · obtain ⟨_, _, _, rfl, _⟩ := h
    rfl
  · obtain ⟨v, ps, sd, rfl, hv, hB, hs, kk⟩ := h
    refine ⟨_, (pss_cons (ps_for PassesOwn.never rfl (pi_range2 (by rfl) T.n_range (pa_cons pe_int (pa_cons (pe_op op_sub (pe_callB call_lenN (by rfl) T.n_len boot_len (pa_cons (pv 0) pa_nil)) pe_int) pa_nil))) (pg_name (i := 2) sc_first_turn.nd rfl (by first | exact Or.inl rfl | exact Or.inr rfl)) (pss_one (ps_if (pt_cmpR op_gt (pe_op op_mul (pe_call (ok_corner T) (hr.mono (by decide)) (by rfl) T.m_corner T.F_corner.kp T.B_corner .nil pass0 (pa_cons (pe_ix ix_listN (pv 0) (pe_op op_sub (pv 2) pe_int) (fun _ _ => rfl)) (pa_cons (pe_ix ix_listN (pv 0) (pv 2) (fun _ _ => rfl)) (pa_cons (pe_ix ix_listN (pv 0) (pe_op op_add (pv 2) pe_int) (fun _ _ => rfl)) pa_nil)))) (pv 1)) pe_int (nomark _)) (pss_one (ps_ret (pv 2))) pss_nil)))
      (pss_one (ps_ret pe_non))), ?_⟩
    obtain ⟨p1, p2⟩ := psB_iff hB
    have hb : ∀ j, j < ps.length → inB (ps.getD j zP) = true := fun j hj => by
      unfold psB at hB
      simp only [Bool.and_eq_true, List.all_eq_true] at hB
      exact hB.1 _ (getD_memP hj)
    have sb : -1 ≤ sd ∧ sd ≤ 1 := by unfold Sd at hs; omega
    refine ⟨_, rfl, _, _, rfl, .inl hv, _, _, rfl, rfl, 1, _, rfl, ⟨by decide, by decide, by rw [List.length_map]; omega, by rw [List.length_map]; omega⟩, ?_⟩
    rw [show ((((ps.map pt).length : Nat) : Int) - 1 - 1).toNat = ps.length - 2 by rw [List.length_map]; omega]
    refine for_range (lo := 1) (n := ps.length - 2) (fun i σ H2 => (∃ v2, σ = [some v, some (.int sd), v2]) ∧ H2 = H ∧ ∀ j, j < i → decide (crn (ps.getD j zP) (ps.getD (j + 1) zP) (ps.getD (j + 2) zP) * sd > 0) = false) ⟨⟨none, rfl⟩, rfl, fun j hj => absurd hj (by omega)⟩ ?_ ?_
    · rintro i σ H2 hi ⟨⟨v2, rfl⟩, rfl, hn⟩
      have a0 := at_ptD (ps := ps) (j := i) (by omega)
      have a1 := at_ptD (ps := ps) (j := i + 1) (by omega)
      have a2 := at_ptD (ps := ps) (j := i + 2) (by omega)
      refine ⟨_, rfl, _, rfl, _, _, rfl, rfl, _, _, _, hv, rfl, by rw [show (1 + (i : Int)) - 1 = ((i : Nat) : Int) by omega]; exact a0, fun u0 h0 => ?_⟩
      refine ⟨_, rfl, _, rfl, _, _, _, hv, rfl, by rw [show (1 + (i : Int)) = ((i + 1 : Nat) : Int) by omega]; exact a1, fun u1 h1 => ?_⟩
      refine ⟨_, rfl, _, rfl, _, _, rfl, rfl, _, _, _, hv, rfl, by rw [show (1 + (i : Int)) + 1 = ((i + 2 : Nat) : Int) by omega]; exact a2, fun u2 h2 => ?_⟩
      refine ⟨u0, u1, u2, _, _, _, rfl, h0, h1, h2, hb _ (by omega), hb _ (by omega), hb _ (by omega), _, rfl, _, _, rfl, rfl, .inr ⟨by omega, by omega⟩, _, _, rfl, rfl, _, rfl, iteD (fun c => ?_) (fun c => ?_)⟩
      · refine ⟨_, rfl, ?_⟩
        have e : turnF ps sd = some (i + 1) := by
          unfold turnF
          rw [find_some hi hn (decide_eq_true c)]
          rfl
        rw [e] at kk
        have : optV (some (i + 1)) = .int (1 + (i : Int)) := by show V.int (((i + 1 : Nat) : Int)) = _; congr 1; omega
        rw [this] at kk
        exact kk
      · refine ⟨⟨_, rfl⟩, rfl, fun j hj => ?_⟩
        by_cases e : j = i
        · rw [e]; exact decide_eq_false c
        · exact hn j (by omega)
    · rintro σ H2 ⟨⟨v2, rfl⟩, rfl, hn⟩
      have e : turnF ps sd = none := by
        unfold turnF
        rw [find_none hn]
        rfl
      rw [e] at kk
      exact kk
theorem ok_steps : FnOk P w K mg base CX0 3 T.f_steps T.d_steps ["d", "way", "side"] (spSteps K) := by
  refine T.F_steps.ok sc_steps (fun vs H Q E h => ?_) (fun cdv A outer s H vs Q E hr h => ?_)
  · obtain ⟨_, _, _, _, rfl, _⟩ := h
    rfl
  · obtain ⟨d, v, ps, sd, rfl, hv, hB, hs, kk⟩ := h
    refine ⟨_, (pss_cons (ps_set (i := 3) sc_steps.nd rfl (by first | exact Or.inl rfl | exact Or.inr rfl) (pe_call (ok_first_turn T) (hr.mono (by decide)) (by rfl) T.m_first_turn T.F_first_turn.kp T.B_first_turn .nil pass0 (pa_cons (pv 1) (pa_cons (pv 2) pa_nil))))
      (pss_cons (ps_if (pt_cmpR op_isN (pv 3) pe_non (nomark _)) (pss_one (ps_ret (pe_lstN pa_nil))) pss_nil)
      (pss_cons (ps_set (i := 4) sc_steps.nd rfl (by first | exact Or.inl rfl | exact Or.inr rfl) (pe_ix ix_listN (pv 1) (pe_op op_sub (pv 3) pe_int) (fun _ _ => rfl)))
      (pss_cons (ps_set (i := 5) sc_steps.nd rfl (by first | exact Or.inl rfl | exact Or.inr rfl) (pe_ix ix_listN (pv 1) (pv 3) (fun _ _ => rfl)))
      (pss_cons (ps_set (i := 6) sc_steps.nd rfl (by first | exact Or.inl rfl | exact Or.inr rfl) (pe_ix ix_listN (pv 1) (pe_op op_add (pv 3) pe_int) (fun _ _ => rfl)))
      (pss_cons (ps_set (i := 7) sc_steps.nd rfl (by first | exact Or.inl rfl | exact Or.inr rfl) (pe_lstN (pa_cons (pe_tupN (pa_cons (pe_tupN (pa_cons (pv 4) (pa_cons (pv 5) (pa_cons (pv 6) pa_nil)))) (pa_cons (pe_op op_catN (pe_slice sl_list (pv 1) po_none (po_some (pv 3))) (pe_slice sl_list (pv 1) (po_some (pe_op op_add (pv 3) pe_int)) po_none)) pa_nil))) pa_nil)))
      (pss_cons (ps_set (i := 8) sc_steps.nd rfl (by first | exact Or.inl rfl | exact Or.inr rfl) (pe_tupN (pa_cons (pe_op op_sub (pe_op op_add (pe_ix ix_tupN (pv 4) pe_int (fun _ _ => rfl)) (pe_ix ix_tupN (pv 6) pe_int (fun _ _ => rfl))) (pe_ix ix_tupN (pv 5) pe_int (fun _ _ => rfl))) (pa_cons (pe_op op_sub (pe_op op_add (pe_ix ix_tupN (pv 4) pe_int (fun _ _ => rfl)) (pe_ix ix_tupN (pv 6) pe_int (fun _ _ => rfl))) (pe_ix ix_tupN (pv 5) pe_int (fun _ _ => rfl))) pa_nil))))
      (pss_cons (ps_if (pt_val (pe_call (ok_is_point T) (hr.mono (by decide)) (by rfl) T.m_is_point T.F_is_point.kp T.B_is_point .nil pass0 (pa_cons (pv 0) (pa_cons (pv 8) pa_nil)))) (pss_one (ps_expr (pe_bm PySem.F.plainAttrs_list PySem.F.slot_list_append PySem.F.type_list_append mt_append (pv 7) (pa_cons (pe_tupN (pa_cons (pe_tupN (pa_cons (pv 4) (pa_cons (pv 5) (pa_cons (pv 6) (pa_cons (pv 8) pa_nil))))) (pa_cons (pe_op op_catN (pe_op op_catN (pe_slice sl_list (pv 1) po_none (po_some (pv 3))) (pe_lstN (pa_cons (pv 8) pa_nil))) (pe_slice sl_list (pv 1) (po_some (pe_op op_add (pv 3) pe_int)) po_none)) pa_nil))) pa_nil)))) pss_nil)
      (pss_one (ps_ret (pv 7))))))))))), ?_⟩
    obtain ⟨p1, p2⟩ := psB_iff hB
    refine ⟨_, rfl, _, rfl, v, ps, sd, rfl, hv, hB, hs, ?_⟩
    unfold stepsF at kk
    cases hT : turnF ps sd with
    | none =>
      rw [hT] at kk
      exact ⟨_, rfl, rfl, _, rfl, iteT ⟨Nat.zero_le _, fun l H1 n1 s1 h1 => kk l H1 s1 n1 (is_l (by rw [nw_new n1]; exact h1) iss_nil)⟩⟩
    | some p =>
      rw [hT] at kk
      dsimp only at kk
      obtain ⟨t1, t2⟩ := turn_lt hT
      refine ⟨_, rfl, rfl, _, rfl, iteF ?_⟩
      show _
      have a0 := at_ptD (ps := ps) (j := p - 1) (by omega)
      have a1 := at_ptD (ps := ps) (j := p) (by omega)
      have a2 := at_ptD (ps := ps) (j := p + 1) (by omega)
      refine ⟨_, rfl, _, rfl, _, _, rfl, rfl, _, _, _, hv, rfl, by rw [show ((p : Int) - 1) = ((p - 1 : Nat) : Int) by omega]; exact a0, fun ua ha => ?_⟩
      refine ⟨_, rfl, _, rfl, _, _, _, hv, rfl, a1, fun ub hb => ?_⟩
      refine ⟨_, rfl, _, rfl, _, _, rfl, rfl, _, _, _, hv, rfl, by rw [show ((p : Int) + 1) = ((p + 1 : Nat) : Int) by omega]; exact a2, fun uc hc => ?_⟩
      generalize ps.getD (p - 1) zP = pa at kk ha
      generalize ps.getD p zP = pb at kk hb
      generalize ps.getD (p + 1) zP = pc at kk hc
      obtain ⟨da, dvs, rfl, hda, hdi⟩ := of_l hv
      have dlen : dvs.length = ps.length := by rw [hdi.length, List.length_map]
      refine ⟨_, rfl, _, rfl, _, rfl, (by show 3 ≤ sizeLine; decide), fun t1' H1 n1 s1 h1 => ?_⟩
      refine ⟨_, rfl, _, rfl, (p : Int), rfl, da, _, rfl, SqL.of (s1 _ _ hda), ?_⟩
      rw [cut_take]
      intro l2 n2
      have s2 : Same H1 (upd H1 l2 (.lst (dvs.take p))) := Same.new n2
      have h2 : (upd H1 l2 (.lst (dvs.take p))) l2 = some (.lst (dvs.take p)) := upd_same
      generalize upd H1 l2 (.lst (dvs.take p)) = H2 at s2 h2 ⊢
      refine ⟨_, rfl, _, rfl, _, _, rfl, rfl, (p : Int) + 1, rfl, da, _, rfl, SqL.of (s2 _ _ (s1 _ _ hda)), ?_⟩
      rw [show ((p : Int) + 1) = ((p + 1 : Nat) : Int) by omega, cut_dropI (by omega)]
      intro l3 n3
      have s3 : Same H2 (upd H2 l3 (.lst (dvs.drop (p + 1)))) := Same.new n3
      have h3 : (upd H2 l3 (.lst (dvs.drop (p + 1)))) l3 = some (.lst (dvs.drop (p + 1))) := upd_same
      generalize upd H2 l3 (.lst (dvs.drop (p + 1))) = H3 at s3 h3 ⊢
      have s03 : Same H H3 := (s1.trans s2).trans s3
      have i2 : Is H3 (pts (ps.take p)) (.ref l2) := is_l (s3 _ _ h2) (by rw [List.map_take]; exact (hdi.take p).mono s03)
      have i3 : Is H3 (pts (ps.drop (p + 1))) (.ref l3) := is_l h3 (by rw [List.map_drop]; exact (hdi.drop (p + 1)).mono s03)
      refine ⟨_, _, i2, i3, Nat.le_of_lt (small1000 (by rw [List.length_map, List.length_map, List.length_take, List.length_drop]; omega)), fun q4 H4 n4 s4 h4 => ⟨(by show 2 ≤ sizeLine; decide), fun t5 H5 n5 s5 h5 => ⟨(by show 1 ≤ sizeLine; decide), fun fo H6 n6 s6 h6 => ?_⟩⟩⟩
      rw [← List.map_append] at h4
      have s06 : Same H H6 := ((s03.trans s4).trans s5).trans s6
      have nfo : H fo = none := ((s03.trans s4).trans s5).free n6
      have s05 : Same H H5 := (s03.trans s4).trans s5
      have is1 : Is (nw H H5) (stpD ([pa, pb, pc], ps.take p ++ ps.drop (p + 1))) (.ref t5) := by
        refine is_t (by rw [nw_new ((s03.trans s4).free n5)]; exact h5) (iss_cons ?_ (iss_cons (nw_pts s05 (s03.free n4) (Is.mono (s := s5) h4)) iss_nil))
        exact ts_pc (nw_ts s05) (is_t (s5 _ _ (s4 _ _ (s3 _ _ (s2 _ _ h1)))) (iss_cons (ha.mono s05) (iss_cons (hb.mono s05) (iss_cons (hc.mono s05) iss_nil))))
      refine ⟨_, rfl, _, 0, _, ha.mono s06, rfl, rfl, fun u hu => ?_⟩
      rw [of_i hu]
      refine ⟨_, rfl, _, 0, _, hc.mono s06, rfl, rfl, fun u hu => ?_⟩
      rw [of_i hu]
      refine ⟨_, _, rfl, rfl, _, rfl, _, 0, _, hb.mono s06, rfl, rfl, fun u hu => ?_⟩
      rw [of_i hu]
      refine ⟨_, _, rfl, rfl, _, rfl, _, 1, _, ha.mono s06, rfl, rfl, fun u hu => ?_⟩
      rw [of_i hu]
      refine ⟨_, rfl, _, 1, _, hc.mono s06, rfl, rfl, fun u hu => ?_⟩
      rw [of_i hu]
      refine ⟨_, _, rfl, rfl, _, rfl, _, 1, _, hb.mono s06, rfl, rfl, fun u hu => ?_⟩
      rw [of_i hu]
      refine ⟨_, _, rfl, rfl, (by show 2 ≤ sizeLine; decide), fun t7 H7 n7 s7 h7 => ?_⟩
      have hf : Is H7 (pt (facF pa pb pc)) (.ref t7) := is_pt h7
      have s07 := s06.trans s7
      refine ⟨_, rfl, _, rfl, d, _, _, rfl, hf, isPt d (facF pa pb pc), rfl, ?_⟩
      cases hP : isPt d (facF pa pb pc) with
      | false =>
        rw [hP] at kk
        refine iteF ⟨_, rfl, kk fo H7 s07 nfo ?_⟩
        exact is_l (by rw [nw_new nfo]; exact s7 _ _ h6) (iss_cons (is1.mono (nw_mono (s6.trans s7))) iss_nil)
      | true =>
        rw [hP] at kk
        refine iteT ⟨_, rfl, .inl ⟨rfl, _, SqL.of (s7 _ _ h6)⟩, _, rfl, _, rfl, _, rfl, _, rfl, (by show 4 ≤ sizeLine; decide), fun t8 H8 n8 s8 h8 => ?_⟩
        have s08 := s07.trans s8
        refine ⟨_, rfl, _, rfl, (p : Int), rfl, da, _, rfl, SqL.of (s08 _ _ hda), ?_⟩
        rw [cut_take]
        intro l9 n9
        have s9 : Same H8 (upd H8 l9 (.lst (dvs.take p))) := Same.new n9
        have h9 : (upd H8 l9 (.lst (dvs.take p))) l9 = some (.lst (dvs.take p)) := upd_same
        generalize upd H8 l9 (.lst (dvs.take p)) = H9 at s9 h9 ⊢
        have s09 := s08.trans s9
        refine ⟨_, rfl, (by show 1 ≤ sizeLine; decide), fun la Ha na sa hla => ?_⟩
        have s0a := s09.trans sa
        refine ⟨_, [pt (facF pa pb pc)], is_l (sa _ _ h9) (by rw [List.map_take]; exact (hdi.take p).mono s0a : Iss Ha ((ps.take p).map pt) (dvs.take p)), is_l hla (iss_cons (((hf.mono s8).mono s9).mono sa) iss_nil), Nat.le_of_lt (small1000 (by rw [List.length_map, List.length_take]; show _ + 1 ≤ 1000; omega)), fun lb Hb nb sb hlb => ?_⟩
        have s0b := s0a.trans sb
        refine ⟨_, rfl, _, rfl, _, _, rfl, rfl, (p : Int) + 1, rfl, da, _, rfl, SqL.of (s0b _ _ hda), ?_⟩
        rw [show ((p : Int) + 1) = ((p + 1 : Nat) : Int) by omega, cut_dropI (by omega)]
        intro lc nc
        have sc : Same Hb (upd Hb lc (.lst (dvs.drop (p + 1)))) := Same.new nc
        have hlc : (upd Hb lc (.lst (dvs.drop (p + 1)))) lc = some (.lst (dvs.drop (p + 1))) := upd_same
        generalize upd Hb lc (.lst (dvs.drop (p + 1))) = Hc at sc hlc ⊢
        have s0c := s0b.trans sc
        refine ⟨_, _, hlb.mono sc, is_l hlc (by rw [List.map_drop]; exact (hdi.drop (p + 1)).mono s0c : Iss Hc ((ps.drop (p + 1)).map pt) (dvs.drop (p + 1))), Nat.le_of_lt (small1000 (by rw [List.length_append, List.length_map, List.length_map, List.length_take, List.length_drop]; show _ + 1 + _ ≤ 1000; omega)), fun ld Hd nd sd' hld => ⟨(by show 2 ≤ sizeLine; decide), fun te He ne se he => ?_⟩⟩
        have s0d := s0c.trans sd'
        have s0e := s0d.trans se
        have s8e : Same H8 He := ((((s9.trans sa).trans sb).trans sc).trans sd').trans se
        have s7e := s8.trans s8e
        refine ⟨fo, _, _, rfl, rfl, s7e _ _ (s7 _ _ h6), small1000 (by show 1 ≤ 1000; decide), ?_⟩
        have hld' : Is Hd (pts (ps.take p ++ [facF pa pb pc] ++ ps.drop (p + 1))) (.ref ld) := by
          have := hld
          show Is Hd (.l ((ps.take p ++ [facF pa pb pc] ++ ps.drop (p + 1)).map pt)) (.ref ld)
          rw [List.map_append, List.map_append]
          exact this
        have is2 : Is (nw H7 He) (stpD ([pa, pb, pc, facF pa pb pc], ps.take p ++ [facF pa pb pc] ++ ps.drop (p + 1))) (.ref te) := by
          have s7d : Same H7 Hd := ((((s8.trans s9).trans sa).trans sb).trans sc).trans sd'
          have s7c : Same H7 Hc := (((s8.trans s9).trans sa).trans sb).trans sc
          refine is_t (by rw [nw_new (s7d.free ne)]; exact he) (iss_cons ?_ (iss_cons (nw_pts s7e (s7c.free nd) (hld'.mono se)) iss_nil))
          exact ts_pc (nw_ts s7e) (is_t (s8e _ _ h8) (iss_cons (ha.mono s0e) (iss_cons (hb.mono s0e) (iss_cons (hc.mono s0e) (iss_cons (hf.mono s7e) iss_nil)))))
        have acc := Acc.add (xs := [stpD ([pa, pb, pc], ps.take p ++ ps.drop (p + 1))]) s07 s7e (s7 _ _ h6) (iss_cons (is1.mono (nw_free n6 (s6.trans s7))) iss_nil) is2
        exact ⟨_, rfl, kk fo _ (s0e.put nfo) nfo (acc.is nfo)⟩
theorem ok_piece_worth : FnOk P w K mg base CX0 2 T.f_piece_worth T.d_piece_worth ["piece"] (spPw K) := by
  refine T.F_piece_worth.ok sc_piece_worth (fun vs H Q E h => ?_) (fun cdv A outer s H vs Q E hr h => ?_)
  · obtain ⟨_, _, rfl, _⟩ := h
    rfl
  · obtain ⟨v, c, rfl, hv, hB, hl, kk⟩ := h
    refine ⟨_, (pss_cons (ps_if (pt_cmpR op_eq (pe_callB call_lenN (by rfl) T.n_len boot_len (pa_cons (pv 0) pa_nil)) pe_int (nomark _)) (pss_one (ps_ret (pe_callB call_abs (by rfl) T.n_abs boot_abs (pa_cons (pe_call (ok_corner T) (hr.mono (by decide)) (by rfl) T.m_corner T.F_corner.kp T.B_corner .nil pass0 (pa_cons (pe_ix ix_tupN (pv 0) pe_int (fun _ _ => rfl)) (pa_cons (pe_ix ix_tupN (pv 0) pe_int (fun _ _ => rfl)) (pa_cons (pe_ix ix_tupN (pv 0) pe_int (fun _ _ => rfl)) pa_nil)))) pa_nil)))) pss_nil)
      (pss_one (ps_ret pe_int))), ?_⟩
    unfold pwF at kk
    refine ⟨_, rfl, _, _, rfl, .inr hv, rfl, _, rfl, iteE (fun e => ?_) (fun e => ?_)⟩
    · rw [List.length_map] at e
      have e3 : c.length = 3 := by omega
      rw [if_pos e3] at kk
      have a0 := at_ptD (ps := c) (j := 0) (by omega)
      have a1 := at_ptD (ps := c) (j := 1) (by omega)
      have a2 := at_ptD (ps := c) (j := 2) (by omega)
      refine ⟨_, rfl, _, 0, _, hv, rfl, a0, fun u0 h0 => ⟨_, rfl, _, 1, _, hv, rfl, a1, fun u1 h1 => ⟨_, rfl, _, 2, _, hv, rfl, a2, fun u2 h2 => ?_⟩⟩⟩
      exact ⟨u0, u1, u2, _, _, _, rfl, h0, h1, h2, hB _ (getD_memP (by omega)), hB _ (getD_memP (by omega)), hB _ (getD_memP (by omega)), _, rfl, kk⟩
    · rw [List.length_map] at e
      rw [if_neg (by omega)] at kk
      exact kk
theorem ok_manners : ∀ n : Nat, FnOk P w K mg base CX0 (n + 3) T.f_manners T.d_manners ["d", "way", "side", "edge"] (spMan n K)
  | 0 => ⟨fun vs H Q E h => (by obtain ⟨_, _, _, _, _, _, _, _, _, h, _⟩ := h; cases h), fun A outer s H args us vs Q E _ _ _ _ h => (by obtain ⟨_, _, _, _, _, _, _, _, _, h, _⟩ := h; cases h)⟩
  | n + 1 => by
    have ih := ok_manners n
    refine T.F_manners.ok sc_manners (fun vs H Q E h => ?_) (fun cdv A outer s H vs Q E hr h => ?_)
    · obtain ⟨_, _, _, _, _, _, rfl, _⟩ := h
      rfl
    · obtain ⟨d, v, ev, ps, es, sd, rfl, hv, hev, hO, hs, kk⟩ := h
      refine ⟨_, (pss_cons (ps_if (pt_cmpR (op_eqS hr) (pv 1) (pv 3) (nomark _)) (pss_one (ps_ret (pe_lstN (pa_cons (pe_lstN pa_nil) pa_nil)))) pss_nil)
      (pss_cons (ps_set (i := 4) sc_manners.nd rfl (by first | exact Or.inl rfl | exact Or.inr rfl) (pe_lstN pa_nil))
      (pss_cons (ps_for PassesOwn.never rfl (pi_list (pe_call (ok_steps T) (hr.mono (by omega)) (by rfl) T.m_steps T.F_steps.kp T.B_steps .nil pass0 (pa_cons (pv 0) (pa_cons (pv 1) (pa_cons (pv 2) pa_nil))))) (pg_tup rfl (pgs_cons (pg_name (i := 5) sc_manners.nd rfl (by first | exact Or.inl rfl | exact Or.inr rfl)) (pgs_cons (pg_name (i := 6) sc_manners.nd rfl (by first | exact Or.inl rfl | exact Or.inr rfl)) pgs_nil))) (pss_one (ps_for PassesOwn.never rfl (pi_list (pe_call ih hr (by rfl) T.m_manners T.F_manners.kp T.B_manners .nil pass0 (pa_cons (pv 0) (pa_cons (pv 6) (pa_cons (pv 2) (pa_cons (pv 3) pa_nil)))))) (pg_name (i := 7) sc_manners.nd rfl (by first | exact Or.inl rfl | exact Or.inr rfl)) (pss_one (ps_expr (pe_bm PySem.F.plainAttrs_list PySem.F.slot_list_append PySem.F.type_list_append mt_append (pv 4) (pa_cons (pe_op op_catN (pe_lstN (pa_cons (pv 5) pa_nil)) (pv 7)) pa_nil)))))))
      (pss_one (ps_ret (pv 4)))))), ?_⟩
      unfold okM at hO
      simp only [Bool.and_eq_true, decide_eq_true_eq, Bool.or_eq_true, List.all_eq_true] at hO
      obtain ⟨⟨⟨hB, hst⟩, hlen⟩, hit⟩ := hO
      rw [manF] at hlen hit kk
      refine ⟨_, rfl, _, rfl, 2, _, eqr_pts hv hev, by decide, _, rfl, iteD (fun hz => ?_) (fun hz => ?_)⟩
      · rw [if_pos hz] at kk
        refine ⟨Nat.zero_le _, fun e0 H1 ne s1 he => ⟨(by show 1 ≤ sizeLine; decide), fun fo H2 nf s2 hfo => ?_⟩⟩
        exact kk fo H2 (s1.trans s2) (s1.free nf) (is_l (by rw [nw_new (s1.free nf)]; exact hfo) (iss_cons (is_l (vs := []) (by rw [nw_new ne]; exact s2 _ _ he) iss_nil) iss_nil))
      rw [if_neg hz] at hlen hit kk
      have hst : ∀ x ∈ stepsF d ps sd, okM n d x.2 sd es = true := hst.resolve_left hz
      refine ⟨Nat.zero_le _, fun fo H1 nfH s1 hfo => ?_⟩
      refine ⟨_, rfl, _, rfl, _, rfl, d, v, ps, sd, rfl, hv.mono s1, hB, hs, fun l0 H2 s2 nl0 hl0 => ?_⟩
      generalize stepsF d ps sd = S at hlen hit kk hst hl0
      have s02 := s1.trans s2
      obtain ⟨_, lvs, e, hl0', hli⟩ := of_l hl0
      cases e
      have hl2 : H2 l0 = some (.lst lvs) := nw_same _ _ hl0'
      have l0fo : l0 ≠ fo := by rintro rfl; rw [hfo] at nl0; cases nl0
      have llen : lvs.length = S.length := by rw [hli.length, List.length_map]
      have hliH : Iss (hid H2 fo) (S.map stpD) lvs := (hli.mono (nw_hid (Same.refl H1) hfo)).mono (hid_mono nw_same)
      refine ⟨l0, rfl, ⟨_, SqL.of hl2⟩, for_list (xs := lvs) (fun i σ H3 => (∃ v5 v6 v7, σ = [some (.int d), some v, some (.int sd), some ev, some (.ref fo), v5, v6, v7]) ∧ Same H H3 ∧ But fo H2 H3 ∧ Acc H H3 fo (((S.take i).flatMap fun x => (manF n d x.2 sd es).map (x.1 :: ·)).map cutD)) ⟨⟨none, none, none, rfl⟩, s02, fun _ _ e _ => e, Acc.start (s2 _ _ hfo)⟩ (fun i σ H3 _ h => SqL.of (h.2.2.1 _ _ hl2 l0fo)) ?_ ?_⟩
      · rintro i y σ H3 hi ⟨⟨v5, v6, v7, rfl⟩, s3, but3, hacc3⟩
        obtain ⟨dd, hdd, hy⟩ := hliH.of_get hi
        rw [List.getElem?_map] at hdd
        obtain ⟨x, hx', rfl⟩ := Option.map_eq_some_iff.mp hdd
        have hx3 : Is H3 (stpD x) y := hy.mono (hid_but but3)
        obtain ⟨t, tvs, rfl, ht, hti⟩ := of_t hx3
        obtain ⟨u1, us, rfl, hu1, hti⟩ := of_cons hti
        obtain ⟨u2, us, rfl, hu2, hti⟩ := of_cons hti
        rw [of_nil hti] at ht
        have tk : ((S.take (i + 1)).flatMap fun x => (manF n d x.2 sd es).map (x.1 :: ·)) = ((S.take i).flatMap fun x => (manF n d x.2 sd es).map (x.1 :: ·)) ++ (manF n d x.2 sd es).map (x.1 :: ·) := by
          rw [List.take_add_one, hx', List.flatMap_append]
          simp
        have pre : ((S.take i).flatMap fun x => (manF n d x.2 sd es).map (x.1 :: ·)).length + (manF n d x.2 sd es).length ≤ 100 := by
          have : ((S.take (i + 1)).flatMap fun x => (manF n d x.2 sd es).map (x.1 :: ·)).length ≤ (S.flatMap fun x => (manF n d x.2 sd es).map (x.1 :: ·)).length := by
            conv => rhs; rw [← List.take_append_drop (i + 1) S]
            rw [List.flatMap_append, List.length_append]
            omega
          rw [tk, List.length_append, List.length_map] at this
          omega
        have items : ∀ r ∈ manF n d x.2 sd es, r.length ≤ 100 := fun r hr => by
          have := hit (x.1 :: r) (List.mem_flatMap.mpr ⟨x, List.mem_of_getElem? hx', List.mem_map.mpr ⟨r, hr, rfl⟩⟩)
          rw [List.length_cons] at this
          omega
        refine ⟨t, _, rfl, SqT.of ht, rfl, _, _, rfl, _, _, rfl, rfl, ?_⟩
        refine ⟨_, rfl, _, rfl, _, rfl, _, rfl, d, u2, ev, x.2, es, sd, rfl, hu2, hev.mono s3, hst x (List.mem_of_getElem? hx'), hs, fun rl H4 s4 nrl hrl => ?_⟩
        obtain ⟨vs3, hfo3, hi3⟩ := id hacc3
        have hfo4 := s4 _ _ hfo3
        obtain ⟨_, rvs, e, hrl', hri⟩ := of_l hrl
        cases e
        have hrl4 : H4 rl = some (.lst rvs) := nw_same _ _ hrl'
        have rlfo : rl ≠ fo := by rintro rfl; rw [hfo3] at nrl; cases nrl
        have rlen : rvs.length = (manF n d x.2 sd es).length := by rw [hri.length, List.length_map]
        have hriH : Iss (hid H4 fo) ((manF n d x.2 sd es).map cutD) rvs := (hri.mono (nw_hid (Same.refl H3) hfo3)).mono (hid_mono nw_same)
        have s04 := s3.trans s4
        have but4 : But fo H2 H4 := but3.trans (But.of_same s4)
        refine ⟨rl, rfl, ⟨_, SqL.of hrl4⟩, for_list (xs := rvs) (fun j σ H5 => (∃ v7, σ = [some (.int d), some v, some (.int sd), some ev, some (.ref fo), some u1, some u2, v7]) ∧ Same H H5 ∧ But fo H4 H5 ∧ Acc H H5 fo ((((S.take i).flatMap fun x => (manF n d x.2 sd es).map (x.1 :: ·)) ++ ((manF n d x.2 sd es).take j).map (x.1 :: ·)).map cutD)) ⟨⟨_, rfl⟩, s04, fun _ _ e _ => e, by simpa using hacc3.mono s4⟩ (fun j σ H5 _ h => SqL.of (h.2.2.1 _ _ hrl4 rlfo)) ?_ ?_⟩
        · rintro j z σ H5 hj ⟨⟨v7, rfl⟩, s5, but5, vs5, hfo5, hi5⟩
          obtain ⟨dd, hdd, hz⟩ := hriH.of_get hj
          rw [List.getElem?_map] at hdd
          obtain ⟨r, hr', rfl⟩ := Option.map_eq_some_iff.mp hdd
          have hjl : j < (manF n d x.2 sd es).length := (List.getElem?_eq_some_iff.mp hr').1
          have hz5 : Is H5 (cutD r) z := hz.mono (hid_but but5)
          have hu5 : Is H5 (pcD x.1) u1 := ts_pc (fun a xs e => but5 _ _ (s4 _ _ e) (by rintro rfl; rw [hfo3] at e; cases e)) hu1
          have rl1 := items r (List.mem_of_getElem? hr')
          have vl : vs5.length ≤ 100 := by
            rw [hi5.length, List.length_map, List.length_append, List.length_map, List.length_take]
            omega
          refine ⟨_, rfl, .inl ⟨rfl, _, SqL.of hfo5⟩, _, rfl, (by show 1 ≤ sizeLine; decide), fun q1 H6 n6 s6 h6 => ⟨_, rfl, [pcD x.1], r.map pcD, is_l h6 (iss_cons (hu5.mono s6) iss_nil), hz5.mono s6, Nat.le_of_lt (small1000 (by rw [List.length_map]; show 1 + r.length ≤ 1000; omega)), fun q2 H7 n7 s7 h7 => ?_⟩⟩
          have s57 := s6.trans s7
          refine ⟨fo, vs5, _, rfl, rfl, s57 _ _ hfo5, small1000 (by omega), ⟨_, rfl⟩, (s5.trans s57).put nfH, but5.trans ((But.of_same s57).trans But.upd), ?_⟩
          rw [List.take_add_one, hr']
          have := Acc.add s5 s57 hfo5 hi5 (nw_cut (cs := x.1 :: r) s57 (s6.free n7) h7)
          simpa using this
        · rintro σ H5 ⟨⟨v7, rfl⟩, s5, but5, hacc5⟩
          refine ⟨⟨_, _, _, rfl⟩, s5, but4.trans but5, ?_⟩
          rw [rlen, List.take_length, ← tk] at hacc5
          exact hacc5
      · rintro σ H3 ⟨⟨v5, v6, v7, rfl⟩, s3, _, hacc⟩
        rw [llen, List.take_length] at hacc
        exact ⟨_, rfl, kk fo H3 s3 nfH (hacc.is nfH)⟩
theorem ok_cuttings : FnOk P w K mg base (CX1 P w) 34 T.f_cuttings T.d_cuttings ["d", "way"] (spCutP T.c_NoBound) := by
  refine T.F_cuttings.okx sc_cuttings (fun vs H Q E h => ?_) (fun cdv A outer s H vs Q E hr h hR hp => ?_)
  · obtain ⟨_, _, rfl, _⟩ := h
    rfl
  · obtain ⟨v, wv, rfl, ht, kk, ke⟩ := h
    refine ⟨_, (pss_cons (ps_expr (pe_call (ok_need_between T) (hr.mono (by decide)) (by rfl) T.m_need_between T.F_need_between.kp T.B_need_between .nil hp (pa_cons (pv 0) (pa_cons pe_int (pa_cons pe_int pa_nil)))))
      (pss_cons (ps_set (i := 2) sc_cuttings.nd rfl (by first | exact Or.inl rfl | exact Or.inr rfl) (pe_call (ok_manners T 30) (hr.mono (by decide)) (by rfl) T.m_manners T.F_manners.kp T.B_manners .nil pass0 (pa_cons (pv 0) (pa_cons (pv 1) (pa_cons (pe_glob (v := .int (-1)) (by rfl) T.m_RIGHT ⟨_, rfl⟩) (pa_cons (pe_call (ok_lower_edge T) (hr.mono (by decide)) (by rfl) T.m_lower_edge T.F_lower_edge.kp T.B_lower_edge .nil hp (pa_cons (pv 0) pa_nil)) pa_nil))))))
      (pss_cons (ps_set (i := 3) sc_cuttings.nd rfl (by first | exact Or.inl rfl | exact Or.inr rfl) (pe_ifExp (pt_truth (pv 2) (fun _ => rfl)) (pe_call (ok_manners T 30) (hr.mono (by decide)) (by rfl) T.m_manners T.F_manners.kp T.B_manners .nil pass0 (pa_cons (pv 0) (pa_cons (pv 1) (pa_cons (pe_glob (v := .int (1)) (by rfl) T.m_LEFT ⟨_, rfl⟩) (pa_cons (pe_call (ok_upper_edge T) (hr.mono (by decide)) (by rfl) T.m_upper_edge T.F_upper_edge.kp T.B_upper_edge .nil hp (pa_cons (pv 0) pa_nil)) pa_nil))))) (pe_lstN pa_nil)))
      (pss_cons (ps_set (i := 4) sc_cuttings.nd rfl (by first | exact Or.inl rfl | exact Or.inr rfl) (pe_lstN pa_nil))
      (pss_cons (PS.quiet (ps_for PassesOwn.never rfl (pi_list (pv 3)) (pg_name (i := 5) sc_cuttings.nd rfl (by first | exact Or.inl rfl | exact Or.inr rfl)) (pss_one (ps_for PassesOwn.never rfl (pi_list (pv 2)) (pg_name (i := 6) sc_cuttings.nd rfl (by first | exact Or.inl rfl | exact Or.inr rfl)) (pss_one (ps_expr (pe_bm PySem.F.plainAttrs_list PySem.F.slot_list_append PySem.F.type_list_append mt_append (pv 4) (pa_cons (pe_op op_catN (pv 5) (pv 6)) pa_nil))))))))
      (pss_one (ps_ret (pe_callB (call_sortedP hr) (by rfl) T.n_sorted boot_sorted (pa_cons (pv 4) pa_nil))))))))), ?_⟩
    refine ⟨_, rfl, v, 1, 4, rfl, ht, .inr (.inl ⟨rfl, rfl⟩), fun ⟨i, ei, i1, i2⟩ => ?_, ke⟩
    subst ei
    obtain ⟨n, rfl⟩ := Int.eq_ofNat_of_zero_le (show 0 ≤ i by omega)
    obtain ⟨ps, hw, hO, k2⟩ := kk n rfl (by omega) (by omega)
    clear kk ke
    unfold okP at hO
    simp only [Bool.and_eq_true, decide_eq_true_eq] at hO
    obtain ⟨⟨o1, o2⟩, o4⟩ := hO
    refine ⟨_, rfl, _, rfl, _, rfl, .int n, rfl, .inl ⟨_, rfl⟩, fun m em _ _ le H1 s1 nle hle => ?_, fun h => absurd ⟨_, rfl, by omega, by omega⟩ h⟩
    obtain rfl : m = n := by have := V.int.inj em; omega
    refine ⟨m, wv, .ref le, ps, loE m, -1, rfl, hw.mono s1, hle, o1, .inr rfl, fun ul H2 s2 nul hul => ?_⟩
    have s02 := s1.trans s2
    have nulH : H ul = none := s1.free nul
    have hul := hul.mono (nw_later s1)
    have mlen := okM_len o1
    have mlen2 := okM_len o2
    obtain ⟨_, uvs, e, hul', hui⟩ := of_l hul
    cases e
    have hul2 : H2 ul = some (.lst uvs) := nw_same _ _ hul'
    have ulen : uvs.length = (manF 30 m ps (-1) (loE m)).length := by rw [hui.length, List.length_map]
    by_cases hu0 : manF 30 m ps (-1) (loE m) = []
    · have u0 : uvs = [] := List.length_eq_zero_iff.mp (by rw [ulen, hu0]; rfl)
      have r0 : rawC m ps = [] := by unfold rawC ovF; rw [if_pos hu0]; rfl
      rw [r0] at k2
      refine ⟨_, rfl, false, .inl ⟨_, SqL.of hul2, by rw [u0]; rfl⟩, iteF ⟨Nat.zero_le _, fun ol H3 nol s3 hol => ?_⟩⟩
      refine ⟨Nat.zero_le _, fun fo H4 nfo s4 hfo => ?_⟩
      have s04 := (s02.trans s3).trans s4
      refine ⟨_, rfl, ol, rfl, ⟨_, SqL.of (s4 _ _ hol)⟩, for_list (xs := []) (fun i σ H5 => σ = [some (.int m), some wv, some (.ref ul), some (.ref ol), some (.ref fo), none, none] ∧ H5 = H4) ⟨rfl, rfl⟩ (fun i σ H5 _ h => by rw [h.2]; exact SqL.of (s4 _ _ hol)) (fun i x σ H5 hx => by simp at hx) ?_⟩
      rintro σ H5 ⟨rfl, rfl⟩
      refine ⟨_, rfl, fo, [], rfl, SqL.of hfo, by decide, fun _ h => (nomatch h), fun _ h => (nomatch h), fun p q pp nq => ?_⟩
      obtain rfl : p = [] := List.Perm.eq_nil pp
      exact k2 [] q _ (List.Perm.refl _) (s04.put (s04.free nq)) (s04.free nq) (is_l (by rw [nw_new (s04.free nq)]; exact upd_same) iss_nil)
    · have une : uvs ≠ [] := fun z => hu0 (List.length_eq_zero_iff.mp (by rw [← ulen, z]; rfl))
      refine ⟨_, rfl, true, .inl ⟨_, SqL.of hul2, by simp [une]⟩, iteT ?_⟩
      refine ⟨_, rfl, _, rfl, _, rfl, .int m, rfl, .inl ⟨_, rfl⟩, fun m' em' _ _ ue H3 s3 nue hue => ?_, fun h => absurd ⟨_, rfl, by omega, by omega⟩ h⟩
      obtain rfl : m' = m := by have := V.int.inj em'; omega
      refine ⟨m', wv, .ref ue, ps, upE m', 1, rfl, (hw.mono s02).mono s3, hue, o2, .inl rfl, fun ol H4 s4 nol hol => ?_⟩
      have s03 := s02.trans s3
      have s04 := s03.trans s4
      have hol := hol.mono (nw_later s03)
      obtain ⟨_, ovs, e, hol', hoi⟩ := of_l hol
      cases e
      have hol4 : H4 ol = some (.lst ovs) := nw_same _ _ hol'
      have eov : ovF m' ps = manF 30 m' ps 1 (upE m') := by unfold ovF; rw [if_neg hu0]
      rw [← eov] at hoi mlen2
      have olen : ovs.length = (ovF m' ps).length := by rw [hoi.length, List.length_map]
      have hoi4 : Iss H4 ((ovF m' ps).map cutD) ovs := hoi.mono nw_same
      have s24 := s3.trans s4
      have hui4 : Iss H4 ((manF 30 m' ps (-1) (loE m')).map cutD) uvs := (hui.mono nw_same).mono s24
      have hul4 := s24 _ _ hul2
      have hraw : rawC m' ps = (ovF m' ps).flatMap fun x => (manF 30 m' ps (-1) (loE m')).map fun y => x ++ y := rfl
      generalize manF 30 m' ps (-1) (loE m') = U at hui4 ulen hraw mlen
      generalize ovF m' ps = O at hoi hoi4 olen hraw mlen2
      refine ⟨Nat.zero_le _, fun fo H5 nfo s5 hfo => ?_⟩
      refine ⟨_, rfl, ol, rfl, ⟨_, SqL.of (s5 _ _ hol4)⟩, for_list (xs := ovs) (fun i σ H6 => (∃ v5 v6, σ = [some (.int m'), some wv, some (.ref ul), some (.ref ol), some (.ref fo), v5, v6]) ∧ Same H4 H6 ∧ Acc H4 H6 fo (((O.take i).flatMap fun x => U.map fun y => x ++ y).map cutD)) ⟨⟨none, none, rfl⟩, s5, Acc.start hfo⟩ (fun i σ H6 _ h => SqL.of (h.2.1 _ _ hol4)) ?_ ?_⟩
      · rintro i y σ H6 hi ⟨⟨v5, v6, rfl⟩, s6, hacc6⟩
        obtain ⟨dd, hdd, hy⟩ := hoi4.of_get hi
        rw [List.getElem?_map] at hdd
        obtain ⟨x, hx', rfl⟩ := Option.map_eq_some_iff.mp hdd
        have tk : ((O.take (i + 1)).flatMap fun x => U.map fun y => x ++ y) = ((O.take i).flatMap fun x => U.map fun y => x ++ y) ++ U.map fun y => x ++ y := by
          rw [List.take_add_one, hx', List.flatMap_append]
          simp
        have pre : ((O.take i).flatMap fun x => U.map fun y => x ++ y).length + U.length ≤ 100 := by
          have : ((O.take (i + 1)).flatMap fun x => U.map fun y => x ++ y).length ≤ (rawC m' ps).length := by
            rw [hraw]
            conv => rhs; rw [← List.take_append_drop (i + 1) O]
            rw [List.flatMap_append, List.length_append]
            omega
          rw [tk, List.length_append, List.length_map] at this
          omega
        refine ⟨_, rfl, ul, rfl, ⟨_, SqL.of (s6 _ _ hul4)⟩, for_list (xs := uvs) (fun j σ H7 => (∃ v6, σ = [some (.int m'), some wv, some (.ref ul), some (.ref ol), some (.ref fo), some y, v6]) ∧ Same H4 H7 ∧ Acc H4 H7 fo ((((O.take i).flatMap fun x => U.map fun y => x ++ y) ++ (U.take j).map fun y => x ++ y).map cutD)) ⟨⟨_, rfl⟩, s6, by simpa using hacc6⟩ (fun j σ H7 _ h => SqL.of (h.2.1 _ _ hul4)) ?_ ?_⟩
        · rintro j z σ H7 hj ⟨⟨v6, rfl⟩, s7, vs7, hfo7, hi7⟩
          obtain ⟨dd, hdd, hz⟩ := hui4.of_get hj
          rw [List.getElem?_map] at hdd
          obtain ⟨r, hr', rfl⟩ := Option.map_eq_some_iff.mp hdd
          have hjl : j < U.length := (List.getElem?_eq_some_iff.mp hr').1
          have x1 := mlen2.2 x (List.mem_of_getElem? hx')
          have r1 := mlen.2 r (List.mem_of_getElem? hr')
          have vl : vs7.length ≤ 100 := by
            rw [hi7.length, List.length_map, List.length_append, List.length_map, List.length_take]
            omega
          refine ⟨_, rfl, .inl ⟨rfl, _, SqL.of hfo7⟩, _, rfl, _, rfl, x.map pcD, r.map pcD, hy.mono s7, hz.mono s7, Nat.le_of_lt (small1000 (by rw [List.length_map, List.length_map]; omega)), fun q H8 nq s8 hq => ?_⟩
          refine ⟨fo, vs7, _, rfl, rfl, s8 _ _ hfo7, small1000 (by omega), ⟨_, rfl⟩, (s7.trans s8).put nfo, ?_⟩
          rw [List.take_add_one, hr']
          rw [← List.map_append] at hq
          have := Acc.add s7 s8 hfo7 hi7 (nw_cut (cs := x ++ r) s8 nq hq)
          simpa using this
        · rintro σ H7 ⟨⟨v6, rfl⟩, s7, hacc7⟩
          refine ⟨⟨_, _, rfl⟩, s7, ?_⟩
          rw [ulen, List.take_length, ← tk] at hacc7
          exact hacc7
      · rintro σ H6 ⟨⟨v5, v6, rfl⟩, s6, hacc⟩
        rw [olen, List.take_length, ← hraw] at hacc
        have s06 := s04.trans s6
        obtain ⟨vs, hfo6, hi6⟩ := hacc
        have hi : Iss (nw H H6) ((rawC m' ps).map cutD) vs := (hi6.mono hid_same).mono (nw_later s04)
        have hv5 : Iss H6 ((rawC m' ps).map cutD) vs := hi.mono nw_same
        have vlen : vs.length = (rawC m' ps).length := by rw [hi.length, List.length_map]
        refine ⟨_, rfl, ?_⟩
        refine ⟨fo, vs, rfl, SqL.of hfo6, by omega, fun r hr' => ?_, fun x hx y hy => ?_, fun p q pp nq => ?_⟩
        · obtain ⟨i, hi, rfl⟩ := List.mem_iff_getElem.mp hr'
          obtain ⟨dd, hdd, hy⟩ := hv5.of_get (List.getElem?_eq_getElem hi)
          rw [List.getElem?_map] at hdd
          obtain ⟨w, _, rfl⟩ := Option.map_eq_some_iff.mp hdd
          obtain ⟨a, ys, e1, e2, _⟩ := of_l hy
          exact ⟨a, ys, e1, SqL.of e2⟩
        · obtain ⟨i, hi, rfl⟩ := List.mem_iff_getElem.mp hx
          obtain ⟨j, hj, rfl⟩ := List.mem_iff_getElem.mp hy
          obtain ⟨dd, hdd, hx'⟩ := hv5.of_get (List.getElem?_eq_getElem hi)
          rw [List.getElem?_map] at hdd
          obtain ⟨w1, _, rfl⟩ := Option.map_eq_some_iff.mp hdd
          obtain ⟨ee, hee, hy'⟩ := hv5.of_get (List.getElem?_eq_getElem hj)
          rw [List.getElem?_map] at hee
          obtain ⟨w2, _, rfl⟩ := Option.map_eq_some_iff.mp hee
          exact ⟨_, ask_cut hx' hy'⟩
        · have hpl : ∀ i ∈ p, i < (rawC m' ps).length := fun i hi => by
            have := List.mem_range.mp (pp.mem_iff.mp hi)
            omega
          refine k2 (p.map fun i => (rawC m' ps).getD i []) q _ ?_ (s06.put (s06.free nq)) (s06.free nq) ?_
          · have := pp.map fun i => (rawC m' ps).getD i []
            have er : (List.range vs.length).map (fun i => (rawC m' ps).getD i []) = rawC m' ps := by
              rw [vlen]
              refine List.ext_getElem (by simp) fun i h1 h2 => ?_
              simp [List.getD, h2]
            rw [er] at this
            exact this
          · exact is_l (by rw [nw_new (s06.free nq)]; exact upd_same) ((iss_pickD [] hi p hpl).mono (nw_mono (Same.new nq)))
theorem ok_cut_worth : FnOk P w K mg base CX0 3 T.f_cut_worth T.d_cut_worth ["cutting"] (spCW K) := by
  refine T.F_cut_worth.ok sc_cut_worth (fun vs H Q E h => ?_) (fun cdv A outer s H vs Q E hr h => ?_)
  · obtain ⟨_, _, rfl, _⟩ := h
    rfl
  · obtain ⟨v, cs, rfl, hv, hB, kk⟩ := h
    refine ⟨_, (pss_cons (ps_set (i := 1) sc_cut_worth.nd rfl (by first | exact Or.inl rfl | exact Or.inr rfl) pe_int)
      (pss_cons (ps_for PassesOwn.never rfl (pi_list (pv 0)) (pg_name (i := 2) sc_cut_worth.nd rfl (by first | exact Or.inl rfl | exact Or.inr rfl)) (pss_one (ps_aug (i := 1) sc_cut_worth.nd rfl (by first | exact Or.inl rfl | exact Or.inr rfl) (pe_call (ok_piece_worth T) (hr.mono (by decide)) (by rfl) T.m_piece_worth T.F_piece_worth.kp T.B_piece_worth .nil pass0 (pa_cons (pv 2) pa_nil)) ip_mult)))
      (pss_one (ps_ret (pv 1))))), ?_⟩
    obtain ⟨a, vs, rfl, ha, hi⟩ := of_l hv
    have vlen : vs.length = cs.length := by rw [hi.length, List.length_map]
    refine ⟨_, rfl, a, rfl, ⟨_, SqL.of ha⟩, for_list (xs := vs) (fun j σ H2 => (∃ v2, σ = [some (.ref a), some (.int (prodC (cs.take j))), v2]) ∧ H2 = H) ⟨⟨none, rfl⟩, rfl⟩ (fun j σ H6 _ h => by rw [h.2]; exact SqL.of ha) ?_ ?_⟩
    · rintro j y σ H2 hj ⟨⟨v2, rfl⟩, rfl⟩
      obtain ⟨dd, hdd, hy⟩ := hi.of_get hj
      rw [List.getElem?_map] at hdd
      obtain ⟨c, hc, rfl⟩ := Option.map_eq_some_iff.mp hdd
      obtain ⟨b1, b2⟩ := hB c (List.mem_of_getElem? hc)
      refine ⟨_, rfl, _, rfl, y, c, rfl, hy, b1, b2, _, _, rfl, rfl, .inr (pw_small b1 b2), ⟨some y, ?_⟩, rfl⟩
      rw [prodC_next hc]
      rfl
    · rintro σ H2 ⟨⟨v2, rfl⟩, rfl⟩
      rw [vlen, List.take_length]
      exact ⟨_, rfl, kk⟩
theorem crn_law (a b c : Pt) : a.1 * (b.2 - c.2) + b.1 * (c.2 - a.2) + c.1 * (a.2 - b.2) = crn a b c := by
  unfold crn
  simp only [Int.mul_sub, Int.sub_mul]
  have e1 := Int.mul_comm c.2 b.1
  have e2 := Int.mul_comm b.2 b.1
  have e3 := Int.mul_comm b.2 c.1
  have e4 := Int.mul_comm a.2 c.1
  have e5 := Int.mul_comm a.2 b.1
  omega
theorem ok__law_product : FnOk P w K mg base CX0 1 T.f__law_product T.d__law_product ["_law_pieces"] (spCW K) := by
  refine T.F__law_product.ok sc__law_product (fun vs H Q E h => ?_) (fun cdv A outer s H vs Q E hr h => ?_)
  · obtain ⟨_, _, rfl, _⟩ := h
    rfl
  · obtain ⟨v, cs, rfl, hv, hB, kk⟩ := h
    refine ⟨_, (pss_cons (ps_set (i := 1) sc__law_product.nd rfl (by first | exact Or.inl rfl | exact Or.inr rfl) pe_int)
      (pss_cons (ps_for PassesOwn.never rfl (pi_list (pv 0)) (pg_name (i := 2) sc__law_product.nd rfl (by first | exact Or.inl rfl | exact Or.inr rfl)) (pss_one (ps_if (pt_cmpR op_eq (pe_callB call_lenN (by rfl) T.n_len boot_len (pa_cons (pv 2) pa_nil)) pe_int (nomark _)) (pss_cons (ps_asg (pv 2) (pg_tup rfl (pgs_cons (pg_name (i := 3) sc__law_product.nd rfl (by first | exact Or.inl rfl | exact Or.inr rfl)) (pgs_cons (pg_name (i := 4) sc__law_product.nd rfl (by first | exact Or.inl rfl | exact Or.inr rfl)) (pgs_cons (pg_name (i := 5) sc__law_product.nd rfl (by first | exact Or.inl rfl | exact Or.inr rfl)) pgs_nil)))))
      (pss_cons (ps_set (i := 6) sc__law_product.nd rfl (by first | exact Or.inl rfl | exact Or.inr rfl) (pe_op op_add (pe_op op_mul (pe_ix ix_tupN (pv 3) pe_int (fun _ _ => rfl)) (pe_op op_sub (pe_ix ix_tupN (pv 4) pe_int (fun _ _ => rfl)) (pe_ix ix_tupN (pv 5) pe_int (fun _ _ => rfl)))) (pe_op op_mul (pe_ix ix_tupN (pv 4) pe_int (fun _ _ => rfl)) (pe_op op_sub (pe_ix ix_tupN (pv 5) pe_int (fun _ _ => rfl)) (pe_ix ix_tupN (pv 3) pe_int (fun _ _ => rfl))))))
      (pss_one (ps_set (i := 1) sc__law_product.nd rfl (by first | exact Or.inl rfl | exact Or.inr rfl) (pe_op op_mul (pv 1) (pe_callB call_abs (by rfl) T.n_abs boot_abs (pa_cons (pe_op op_add (pv 6) (pe_op op_mul (pe_ix ix_tupN (pv 5) pe_int (fun _ _ => rfl)) (pe_op op_sub (pe_ix ix_tupN (pv 3) pe_int (fun _ _ => rfl)) (pe_ix ix_tupN (pv 4) pe_int (fun _ _ => rfl))))) pa_nil))))))) pss_nil)))
      (pss_one (ps_ret (pv 1))))), ?_⟩
    obtain ⟨a, vs, rfl, ha, hi⟩ := of_l hv
    have vlen : vs.length = cs.length := by rw [hi.length, List.length_map]
    refine ⟨_, rfl, a, rfl, ⟨_, SqL.of ha⟩, for_list (xs := vs) (fun j σ H2 => (∃ v2 v3 v4 v5 v6, σ = [some (.ref a), some (.int (prodC (cs.take j))), v2, v3, v4, v5, v6]) ∧ H2 = H) ⟨⟨none, none, none, none, none, rfl⟩, rfl⟩ (fun j σ H6 _ h => by rw [h.2]; exact SqL.of ha) ?_ ?_⟩
    · rintro j y σ H2 hj ⟨⟨v2, v3, v4, v5, v6, rfl⟩, rfl⟩
      obtain ⟨dd, hdd, hy⟩ := hi.of_get hj
      rw [List.getElem?_map] at hdd
      obtain ⟨c, hc, rfl⟩ := Option.map_eq_some_iff.mp hdd
      obtain ⟨b1, b2⟩ := hB c (List.mem_of_getElem? hc)
      have hpw := pw_small b1 b2
      have hn := prodC_next hc
      refine ⟨_, rfl, _, _, rfl, .inr hy, rfl, _, rfl, iteE (fun e => ?_) (fun e => ?_)⟩
      · rw [List.length_map] at e
        have e3 : c.length = 3 := by omega
        obtain ⟨p, q, r, rfl⟩ : ∃ p q r, c = [p, q, r] := by
          match c, e3 with
          | [p, q, r], _ => exact ⟨p, q, r, rfl⟩
        obtain ⟨t, tvs, rfl, ht, hti⟩ := of_t hy
        obtain ⟨u1, us, rfl, hu1, hti⟩ := of_cons hti
        obtain ⟨u2, us, rfl, hu2, hti⟩ := of_cons hti
        obtain ⟨u3, us, rfl, hu3, hti⟩ := of_cons hti
        rw [of_nil hti] at ht
        have i1 := b1 p (by simp)
        have i2 := b1 q (by simp)
        have i3 := b1 r (by simp)
        unfold inB at i1 i2 i3
        simp only [Bool.and_eq_true, decide_eq_true_eq] at i1 i2 i3
        have hcr := crn_law p q r
        have ep : pwF [p, q, r] = abI (crn p q r) := by unfold pwF; rw [if_pos (show [p, q, r].length = 3 from rfl)]; rfl
        refine ⟨_, rfl, t, _, rfl, SqT.of ht, rfl, _, _, rfl, _, _, rfl, _, _, rfl, rfl, ?_⟩
        refine ⟨_, rfl, _, 0, _, hu1, rfl, rfl, fun w1 k1 => ?_⟩
        rw [of_i k1]
        refine ⟨_, rfl, _, 1, _, hu2, rfl, rfl, fun w1 k1 => ?_⟩
        rw [of_i k1]
        refine ⟨_, rfl, _, 1, _, hu3, rfl, rfl, fun w1 k1 => ?_⟩
        rw [of_i k1]
        refine ⟨_, _, rfl, rfl, _, _, rfl, rfl, .inl ⟨by omega, by omega⟩, _, rfl, _, 0, _, hu2, rfl, rfl, fun w1 k1 => ?_⟩
        rw [of_i k1]
        refine ⟨_, rfl, _, 1, _, hu3, rfl, rfl, fun w1 k1 => ?_⟩
        rw [of_i k1]
        refine ⟨_, rfl, _, 1, _, hu1, rfl, rfl, fun w1 k1 => ?_⟩
        rw [of_i k1]
        refine ⟨_, _, rfl, rfl, _, _, rfl, rfl, .inl ⟨by omega, by omega⟩, _, _, rfl, rfl, ?_⟩
        refine ⟨_, rfl, _, rfl, _, rfl, _, 0, _, hu3, rfl, rfl, fun w1 k1 => ?_⟩
        rw [of_i k1]
        refine ⟨_, rfl, _, 1, _, hu1, rfl, rfl, fun w1 k1 => ?_⟩
        rw [of_i k1]
        refine ⟨_, rfl, _, 1, _, hu2, rfl, rfl, fun w1 k1 => ?_⟩
        rw [of_i k1]
        refine ⟨_, _, rfl, rfl, _, _, rfl, rfl, .inl ⟨by omega, by omega⟩, _, _, rfl, rfl, _, rfl, ?_⟩
        rw [hcr]
        rw [ep] at hpw hn
        refine ⟨_, _, rfl, rfl, .inr hpw, ⟨some (.ref t), some u1, some u2, some u3, some (.int (p.1 * (q.2 - r.2) + q.1 * (r.2 - p.2))), ?_⟩, rfl⟩
        rw [hn]
        rfl
      · rw [List.length_map] at e
        have e4 : pwF c = 1 := by unfold pwF; rw [if_neg (by omega)]
        rw [e4, Int.mul_one] at hn
        refine ⟨⟨some y, v3, v4, v5, v6, ?_⟩, rfl⟩
        rw [hn]
        rfl
    · rintro σ H2 ⟨⟨v2, v3, v4, v5, v6, rfl⟩, rfl⟩
      rw [vlen, List.take_length]
      exact ⟨_, rfl, kk⟩
theorem sidG_next {a : Pt} : ∀ {c : List Pt} {i : Nat} {p : Pt}, c[i]? = some p → sidG a (c.take (i + 1)) = sidG a (c.take i) ++ [[minQ ((a :: c).getD i zP) p, maxQ ((a :: c).getD i zP) p]] := by
  intro c
  induction c generalizing a with
  | nil => intro i p h; simp at h
  | cons q c ih =>
    intro i p h
    cases i with
    | zero =>
      have : q = p := by simpa using h
      subst this
      simp [sidG]
    | succ i =>
      have h' : c[i]? = some p := by simpa using h
      rw [List.take_succ_cons, List.take_succ_cons]
      show _ :: sidG q (c.take (i + 1)) = _ :: sidG q (c.take i) ++ _
      rw [ih h', List.cons_append]
      rfl
theorem ok_sides : FnOk P w K mg base CX0 2 T.f_sides T.d_sides ["piece"] (spSid K) := by
  refine T.F_sides.ok sc_sides (fun vs H Q E h => ?_) (fun cdv A outer s H vs Q E hr h => ?_)
  · obtain ⟨_, _, rfl, _⟩ := h
    rfl
  · obtain ⟨v, c, rfl, hv, hB, kk⟩ := h
    refine ⟨_, (pss_cons (ps_set (i := 1) sc_sides.nd rfl (by first | exact Or.inl rfl | exact Or.inr rfl) (pe_lstN pa_nil))
      (pss_cons (ps_set (i := 2) sc_sides.nd rfl (by first | exact Or.inl rfl | exact Or.inr rfl) (pe_ix ix_tupN (pv 0) (pe_un un_neg pe_int) (fun _ _ => rfl)))
      (pss_cons (ps_for PassesOwn.never rfl (pi_tup (pv 0)) (pg_name (i := 3) sc_sides.nd rfl (by first | exact Or.inl rfl | exact Or.inr rfl)) (pss_cons (ps_expr (pe_bm PySem.F.plainAttrs_list PySem.F.slot_list_append PySem.F.type_list_append mt_append (pv 1) (pa_cons (pe_tupN (pa_cons (pe_callB (call_minS rfl hr) (by rfl) T.n_min boot_min (pa_cons (pv 2) (pa_cons (pv 3) pa_nil))) (pa_cons (pe_callB (call_maxP rfl hr) (by rfl) T.n_max boot_max (pa_cons (pv 2) (pa_cons (pv 3) pa_nil))) pa_nil))) pa_nil)))
      (pss_one (ps_set (i := 2) sc_sides.nd rfl (by first | exact Or.inl rfl | exact Or.inr rfl) (pv 3)))))
      (pss_one (ps_ret (pv 1)))))), ?_⟩
    obtain ⟨a, vs, rfl, ha, hi⟩ := of_t hv
    have vlen : vs.length = c.length := by rw [hi.length, List.length_map]
    have cl := hB.2
    have cne : c ≠ [] := by rintro rfl; simp at cl
    refine ⟨Nat.zero_le _, fun fo H1 nfo s1 hfo => ?_⟩
    have hlast : atI (c.map pt) (-1) = some (pt (c.getLastD zP)) := by
      unfold atI ixN
      rw [List.length_map, if_neg (by omega), if_pos (by omega)]
      show (c.map pt)[((-1 : Int) + (c.length : Int)).toNat]? = _
      rw [show ((-1 : Int) + (c.length : Int)).toNat = c.length - 1 by omega]
      exact last_at cne
    refine ⟨_, rfl, 1, rfl, c.map pt, -1, pt (c.getLastD zP), hv.mono s1, rfl, hlast, fun u hu => ?_⟩
    have hu0 : Is (hid H1 fo) (pt (c.getLastD zP)) u := by
      obtain ⟨b, rfl, hb⟩ := of_pt hu
      exact is_pt (by rw [hid_at (by rintro rfl; rw [hfo] at hb; cases hb)]; exact hb)
    refine ⟨_, rfl, a, rfl, ⟨_, SqT.of (s1 _ _ ha)⟩, for_tup (xs := vs) (fun i σ H2 => (∃ u v3, σ = [some (.ref a), some (.ref fo), some u, v3] ∧ Is H2 (pt ((c.getLastD zP :: c).getD i zP)) u) ∧ Same H H2 ∧ ∃ zs, H2 fo = some (.lst zs) ∧ Iss H2 ((sidG (c.getLastD zP) (c.take i)).map pcD) zs) ⟨⟨u, none, rfl, hu⟩, s1, [], hfo, iss_nil⟩ (fun i σ H2 _ h => SqT.of (h.2.1 _ _ ha)) ?_ ?_⟩
    · rintro i y σ H2 hy ⟨⟨u, v3, rfl, hu⟩, s2, zs, hfo2, hz⟩
      obtain ⟨dd, hdd, hp⟩ := hi.of_get hy
      rw [List.getElem?_map] at hdd
      obtain ⟨p, hp', rfl⟩ := Option.map_eq_some_iff.mp hdd
      have il : i < c.length := (List.getElem?_eq_some_iff.mp hp').1
      have hp2 := hp.mono s2
      generalize hq : (c.getLastD zP :: c).getD i zP = q at hu
      obtain ⟨b1, rfl, hb1⟩ := of_pt hu
      obtain ⟨b2, rfl, hb2⟩ := of_pt hp2
      have zl : zs.length = i := by rw [hz.length, List.length_map, sidG_len, List.length_take]; omega
      refine ⟨_, rfl, .inl ⟨rfl, _, SqL.of hfo2⟩, _, rfl, _, rfl, _, _, 1, _, rfl, ltr_pt hp2 hu, by decide, _, rfl, _, rfl, b1, b2, q, p, rfl, SqT.of hb1, SqT.of hb2, (by show 2 ≤ sizeLine; decide), fun t H3 nt s3 ht3 => ?_⟩
      refine ⟨fo, zs, _, rfl, rfl, s3 _ _ hfo2, small1000 (by omega), ?_⟩
      have tu : TupS H3 (upd H3 fo (.lst (zs ++ [.ref t]))) := TupS.upd (s3 _ _ hfo2)
      have hmin : Is H2 (pt (minQ q p)) (if ltPt p q = true then V.ref b2 else V.ref b1) := by
        unfold minQ
        cases ltPt p q
        · exact hu
        · exact hp2
      have hmax : Is H2 (pt (maxQ q p)) (if gtI p q = true then V.ref b2 else V.ref b1) := by
        unfold maxQ
        cases gtI p q
        · exact hu
        · exact hp2
      refine ⟨_, rfl, ⟨_, _, rfl, ?_⟩, (s2.trans s3).put nfo, _, upd_same, ?_⟩
      · have e : (c.getLastD zP :: c).getD (i + 1) zP = p := by
          rw [List.getD_cons_succ, List.getD_eq_getElem?_getD, hp']
          rfl
        rw [e]
        exact ts_pt tu (hp2.mono s3)
      · rw [sidG_next hp', List.map_append, hq]
        exact (ts_pcs tu (hz.mono s3)).append (iss_cons (ts_pc tu (is_t ht3 (iss_cons (hmin.mono s3) (iss_cons (hmax.mono s3) iss_nil)))) iss_nil)
    · rintro σ H2 ⟨⟨u, v3, rfl, hu⟩, s2, zs, hfo2, hz⟩
      rw [vlen, List.take_length] at hz
      exact ⟨_, rfl, kk fo H2 s2 nfo (is_l hfo2 hz)⟩
theorem ok_gathered : FnOk P w K mg base CX0 1 T.f_gathered T.d_gathered ["things", "pairs"] (spGat P w) := by
  refine T.F_gathered.ok sc_gathered (fun vs H Q E h => ?_) (fun cdv A outer s H vs Q E hr h => ?_)
  · obtain ⟨_, _, _, _, rfl, _⟩ := h
    rfl
  · obtain ⟨v1, v2, xs, ps, rfl, h1, h2, nd, xl, hin, kk⟩ := h
    refine ⟨_, (pss_cons (ps_set (i := 2) sc_gathered.nd rfl (by first | exact Or.inl rfl | exact Or.inr rfl) pe_nnew)
      (pss_cons (ps_for PassesOwn.never rfl (pi_list (pv 0)) (pg_name (i := 3) sc_gathered.nd rfl (by first | exact Or.inl rfl | exact Or.inr rfl)) (pss_one (ps_nput (hu2_of hr) (pv 2) (pv 3) (pv 3) rfl)))
      (pss_cons (ps_for PassesOwn.never rfl (pi_list (pv 1)) (pg_tup rfl (pgs_cons (pg_name (i := 4) sc_gathered.nd rfl (by first | exact Or.inl rfl | exact Or.inr rfl)) (pgs_cons (pg_name (i := 5) sc_gathered.nd rfl (by first | exact Or.inl rfl | exact Or.inr rfl)) pgs_nil))) (pss_cons (ps_set (i := 6) sc_gathered.nd rfl (by first | exact Or.inl rfl | exact Or.inr rfl) (pe_nget (hu2_of hr) (pv 2) (pv 4) (fun _ _ => rfl)))
      (pss_cons (ps_set (i := 7) sc_gathered.nd rfl (by first | exact Or.inl rfl | exact Or.inr rfl) (pe_nget (hu2_of hr) (pv 2) (pv 5) (fun _ _ => rfl)))
      (pss_one (ps_for PassesOwn.never rfl (pi_list (pv 0)) (pg_name (i := 3) sc_gathered.nd rfl (by first | exact Or.inl rfl | exact Or.inr rfl)) (pss_one (ps_if (pt_cmpR (op_eqS hr) (pe_nget (hu2_of hr) (pv 2) (pv 3) (fun _ _ => rfl)) (pv 7) (nomark _)) (pss_one (ps_nput (hu2_of hr) (pv 2) (pv 3) (pv 6) rfl)) pss_nil)))))))
      (pss_one (ps_ret (pv 2)))))), ?_⟩
    intro st H0 nst hD0 k0
    obtain ⟨t, tvs, rfl, ht, hti⟩ := of_l h1
    obtain ⟨q, qvs, rfl, hq, hqi⟩ := of_l h2
    have tlen : tvs.length = xs.length := by rw [hti.length, List.length_map]
    have qlen : qvs.length = ps.length := by rw [hqi.length, List.length_map]
    have b0 : Same H H0 := fun b o e => by rw [k0 b (by rintro rfl; rw [nst] at e; cases e)]; exact e
    refine ⟨_, rfl, t, rfl, ⟨_, SqL.of (b0 _ _ ht)⟩, for_list (xs := tvs) (fun i σ H1 => (∃ v3, σ = [some (.ref t), some (.ref q), some (.ref st), v3, none, none, none, none]) ∧ Same H H1 ∧ ∃ kvs, DN P w H1 st kvs ∧ GR H1 (twice (xs.take i)) kvs) ⟨⟨none, rfl⟩, b0, [], hD0, .nil⟩ (fun i σ H1 _ h => SqL.of (h.2.1 _ _ ht)) ?_ ?_⟩
    · rintro i y σ H1 hi ⟨⟨v3, rfl⟩, s1, kvs, hD1, g1⟩
      obtain ⟨dd, hdd, hy⟩ := hti.of_get hi
      rw [List.getElem?_map] at hdd
      obtain ⟨x, hx, rfl⟩ := Option.map_eq_some_iff.mp hdd
      have il : i < xs.length := (List.getElem?_eq_some_iff.mp hx).1
      have hy1 := hy.mono s1
      have hk : Is H1 (nK (wk x)) y := by rw [nK_pts]; exact hy1
      have hn : hasS (twice (xs.take i)) x = false := by
        cases e : hasS (twice (xs.take i)) x with
        | false => rfl
        | true =>
          have := hasS_iff.mp e
          rw [twice_keys] at this
          exact absurd this (nd_take nd hx)
      have gl := g1.len
      have tl : (twice (xs.take i)).length = i := by unfold twice; rw [List.length_map, List.length_take]; omega
      refine ⟨_, rfl, _, rfl, _, rfl, st, kvs, wk x, rfl, hD1, hk, small1000 (by omega), fun H2 hD2 k2 => ?_⟩
      have but : But st H1 H2 := fun c o e n => by rw [k2 c n]; exact e
      have tu : TupS H1 H2 := (lts_but hD1 but).2
      refine ⟨⟨_, rfl⟩, But.same s1 nst but, _, hD2, ?_⟩
      have e : twice (xs.take (i + 1)) = twice (xs.take i) ++ [(x, x)] := by
        rw [List.take_add_one, hx]
        unfold twice
        rw [List.map_append]
        rfl
      rw [e]
      exact (g1.ts tu).new hn (ts_pc tu hy1)
    · rintro σ H1 ⟨⟨v3, rfl⟩, s1, kvs, hD1, g1⟩
      rw [tlen, List.take_length] at g1
      refine ⟨_, rfl, q, rfl, ⟨_, SqL.of (s1 _ _ hq)⟩, for_list (xs := qvs) (fun i σ H2 => (∃ v3 v4 v5 v6 v7, σ = [some (.ref t), some (.ref q), some (.ref st), v3, v4, v5, v6, v7]) ∧ Same H H2 ∧ ∃ kvs, DN P w H2 st kvs ∧ GR H2 (gthF (twice xs) (ps.take i)) kvs) ⟨⟨_, none, none, none, none, rfl⟩, s1, kvs, hD1, g1⟩ (fun i σ H2 _ h => SqL.of (h.2.1 _ _ hq)) ?_ ?_⟩
      · rintro i y σ H2 hi ⟨⟨v3, v4, v5, v6, v7, rfl⟩, s2, kvs, hD2, g2⟩
        obtain ⟨dd, hdd, hy⟩ := hqi.of_get hi
        rw [List.getElem?_map] at hdd
        obtain ⟨x, hx, rfl⟩ := Option.map_eq_some_iff.mp hdd
        obtain ⟨in1, in2⟩ := hin x (List.mem_of_getElem? hx)
        obtain ⟨pa, pvs, rfl, hpa, hpi⟩ := of_t (hy.mono s2)
        obtain ⟨u1, us, rfl, hu1, hpi⟩ := of_cons hpi
        obtain ⟨u2, us, rfl, hu2, hpi⟩ := of_cons hpi
        rw [of_nil hpi] at hpa
        have keys : (gthF (twice xs) (ps.take i)).map (·.1) = xs := by rw [gthF_keys, twice_keys]
        have snoc : gthF (twice xs) (ps.take (i + 1)) = gth1 (gthF (twice xs) (ps.take i)) (getS (gthF (twice xs) (ps.take i)) x.1) (getS (gthF (twice xs) (ps.take i)) x.2) := by
          rw [List.take_add_one, hx]
          exact gthF_snoc
        rw [snoc]
        generalize gthF (twice xs) (ps.take i) = S at g2 keys ⊢
        obtain ⟨kv, ev1, hkv⟩ := g2.get (k := x.1) (by rw [keys]; exact in1)
        obtain ⟨lv, ev2, hlv⟩ := g2.get (k := x.2) (by rw [keys]; exact in2)
        generalize getS S x.1 = kept at hkv ⊢
        generalize getS S x.2 = left at hlv ⊢
        refine ⟨pa, _, rfl, SqT.of hpa, rfl, _, _, rfl, _, _, rfl, rfl, ?_⟩
        refine ⟨_, rfl, _, rfl, st, kvs, wk x.1, kv, rfl, hD2, by rw [nK_pts]; exact hu1, ev1, ?_⟩
        refine ⟨_, rfl, _, rfl, st, kvs, wk x.2, lv, rfl, hD2, by rw [nK_pts]; exact hu2, ev2, ?_⟩
        have sl : S.length = xs.length := by rw [← keys, List.length_map]
        refine ⟨_, rfl, t, rfl, ⟨_, SqL.of (s2 _ _ ht)⟩, for_list (xs := tvs) (fun j σ H3 => (∃ v3, σ = [some (.ref t), some (.ref q), some (.ref st), v3, some u1, some u2, some kv, some lv]) ∧ Same H H3 ∧ ∃ kvs, DN P w H3 st kvs ∧ GR H3 (gth1 (S.take j) kept left ++ S.drop j) kvs ∧ Is H3 (pcD kept) kv ∧ Is H3 (pcD left) lv) ⟨⟨_, rfl⟩, s2, kvs, hD2, g2, hkv, hlv⟩ (fun i σ H3 _ h => SqL.of (h.2.1 _ _ ht)) ?_ ?_⟩
        · rintro j z σ H3 hj ⟨⟨v3, rfl⟩, s3, kvs, hD3, g3, hkv, hlv⟩
          obtain ⟨dd, hdd, hz⟩ := hti.of_get hj
          rw [List.getElem?_map] at hdd
          obtain ⟨x', hx', rfl⟩ := Option.map_eq_some_iff.mp hdd
          have jl : j < xs.length := (List.getElem?_eq_some_iff.mp hx').1
          obtain ⟨s', hs'⟩ : ∃ s', S[j]? = some s' := ⟨_, List.getElem?_eq_getElem (by omega)⟩
          have e1 : s'.1 = x' := by
            have : (S.map (·.1))[j]? = some x' := by rw [keys]; exact hx'
            rw [List.getElem?_map, hs'] at this
            simpa using this
          obtain ⟨n1, n2⟩ := nd_mid (S := S) (by rw [keys]; exact nd) hs'
          rw [← gth1_keys (S.take j) kept left] at n1
          rw [gth1_next hs']
          rw [drop_next hs'] at g3
          obtain ⟨sa, sb⟩ := s'
          have e1 : sa = x' := e1
          subst e1
          have hz3 := hz.mono s3
          have hk3 : Is H3 (nK (wk sa)) z := by rw [nK_pts]; exact hz3
          obtain ⟨v, ev, hv⟩ := g3.get (k := sa) (by simp)
          rw [getS_mid n1] at hv
          refine ⟨_, rfl, _, rfl, st, kvs, wk sa, v, rfl, hD3, hk3, ev, _, rfl, 2, cE sb left, by rw [cE_dec]; exact eqr_pc hv hlv, by decide, _, rfl, ?_⟩
          cases hb : cE sb left with
          | false =>
            refine iteF ⟨⟨_, rfl⟩, s3, kvs, hD3, g3, hkv, hlv⟩
          | true =>
            have gl := g3.len
            have ll : (gth1 (S.take j) kept left ++ (sa, sb) :: S.drop (j + 1)).length = xs.length := by
              have : (gth1 (S.take j) kept left).length = j := by unfold gth1; rw [List.length_map, List.length_take]; omega
              rw [List.length_append, this, List.length_cons, List.length_drop]
              omega
            refine iteT ⟨_, rfl, _, rfl, _, rfl, st, kvs, wk sa, rfl, hD3, hk3, small1000 (by omega), fun H4 hD4 k4 => ?_⟩
            have but : But st H3 H4 := fun c o e n => by rw [k4 c n]; exact e
            have tu : TupS H3 H4 := (lts_but hD3 but).2
            exact ⟨⟨_, rfl⟩, But.same s3 nst but, _, hD4, (g3.ts tu).mid n1 n2 (ts_pc tu hkv), ts_pc tu hkv, ts_pc tu hlv⟩
        · rintro σ H3 ⟨⟨v3, rfl⟩, s3, kvs, hD3, g3, _, _⟩
          rw [tlen, ← sl, List.take_length, List.drop_length, List.append_nil] at g3
          exact ⟨⟨_, _, _, _, _, rfl⟩, s3, kvs, hD3, g3⟩
      · rintro σ H2 ⟨⟨v3, v4, v5, v6, v7, rfl⟩, s2, kvs, hD2, g2⟩
        rw [qlen, List.take_length] at g2
        exact ⟨_, rfl, kk st H2 kvs s2 nst hD2 g2⟩
theorem ok_how_many_sets : FnOk P w K mg base CX0 2 T.f_how_many_sets T.d_how_many_sets ["things", "pairs"] (spSets P w) := by
  refine T.F_how_many_sets.ok sc_how_many_sets (fun vs H Q E h => ?_) (fun cdv A outer s H vs Q E hr h => ?_)
  · obtain ⟨_, _, _, _, rfl, _⟩ := h
    rfl
  · obtain ⟨v1, v2, xs, ps, rfl, h1, h2, nd, xl, hin, kk⟩ := h
    refine ⟨_, (pss_cons (ps_set (i := 2) sc_how_many_sets.nd rfl (by first | exact Or.inl rfl | exact Or.inr rfl) (pe_call (ok_gathered T) (hr.mono (by decide)) (by rfl) T.m_gathered T.F_gathered.kp T.B_gathered .nil pass0 (pa_cons (pv 0) (pa_cons (pv 1) pa_nil))))
      (pss_one (ps_ret (pe_callB call_lenN (by rfl) T.n_len boot_len (pa_cons (pe_compB (XN := ["things", "pairs", "standing"]) (sc := defScope s_how_many_sets) (N := ["thing", "standing"]) (own := 1) (js := [2]) rfl (by decide +kernel) rfl rfl (pi_list (pv 0)) (fun _ _ _ _ => (pg_name (i := 0) (show List.Nodup (["thing", "standing"] : List Str) by decide +kernel) rfl (Or.inl rfl) (.inr rfl))) (ownG_name (by decide)) (fun _ _ _ _ => (pifs_one (pt_cmpR (op_eqSK (K := K) rfl hr) (pe_ngetK (P := P) (w := w) rfl rfl (hu2_of hr) (pv 1) (pv 0) (fun _ _ => rfl)) (pv 0) (nomark _)))) (fun _ _ _ _ => (pv 0))) pa_nil))))), ?_⟩
    refine ⟨_, rfl, _, rfl, v1, v2, xs, ps, rfl, h1, h2, nd, xl, hin, fun st H1 kvs s1 nst hD g => ?_⟩
    obtain ⟨t, tvs, rfl, ht, hti⟩ := of_l h1
    have tlen : tvs.length = xs.length := by rw [hti.length, List.length_map]
    have keys : (gthF (twice xs) ps).map (·.1) = xs := by rw [gthF_keys, twice_keys]
    unfold setsF at kk
    generalize gthF (twice xs) ps = S at g keys kk
    have sl : S.length = xs.length := by rw [← keys, List.length_map]
    refine ⟨_, rfl, t, rfl, ⟨_, SqL.of (s1 _ _ ht)⟩, fun acc na => ?_⟩
    refine comp_list (xs := tvs) (own := 1) (js := [2]) (fun i H3 => Same H1 H3 ∧ ∃ vs, H3 acc = some (.lst vs) ∧ Iss H3 ((((S.take i).filter fun y => cE y.2 y.1).map (·.1)).map pcD) vs) ⟨Same.new na, [], upd_same, iss_nil⟩ (fun i H3 _ h => SqL.of (h.1 _ _ (s1 _ _ ht))) ?_ ?_ mono_name ?_ ?_
    · rintro i x H3 hi ⟨s3, vs, hacc, vl⟩
      obtain ⟨dd, hdd, hz⟩ := hti.of_get hi
      rw [List.getElem?_map] at hdd
      obtain ⟨x', hx', rfl⟩ := Option.map_eq_some_iff.mp hdd
      have jl : i < xs.length := (List.getElem?_eq_some_iff.mp hx').1
      obtain ⟨⟨sa, sb⟩, hs'⟩ : ∃ s', S[i]? = some s' := ⟨_, List.getElem?_eq_getElem (by omega)⟩
      have e1 : sa = x' := by
        have : (S.map (·.1))[i]? = some x' := by rw [keys]; exact hx'
        rw [List.getElem?_map, hs'] at this
        simpa using this
      subst e1
      obtain ⟨n1, _⟩ := nd_mid (S := S) (by rw [keys]; exact nd) hs'
      have g3 : GR H3 S kvs := g.ts (TupS.of_same s3)
      have hz3 := (hz.mono s1).mono s3
      have hs2 : S = S.take i ++ (sa, sb) :: S.drop (i + 1) := by rw [← drop_next hs', List.take_append_drop]
      obtain ⟨v, ev, hv⟩ := g3.get (k := sa) (by rw [hs2]; simp)
      have eg : getS S sa = sb := by
        rw [hs2]
        exact getS_mid n1
      rw [eg] at hv
      have nx : ((S.take (i + 1)).filter fun y => cE y.2 y.1) = ((S.take i).filter fun y => cE y.2 y.1) ++ if cE sb sa = true then [(sa, sb)] else [] := by
        rw [List.take_add_one, hs', List.filter_append]
        simp only [Option.toList_some, List.filter_cons, List.filter_nil]
      refine ⟨_, rfl, _, rfl, st, kvs, wk sa, v, rfl, hD.mono s3, by rw [nK_pts]; exact hz3, ev, _, rfl, 2, cE sb sa, by rw [cE_dec]; exact eqr_pc hv hz3, by decide, _, rfl, ?_⟩
      rw [nx]
      cases hb : cE sb sa with
      | false => exact iteF ⟨s3, vs, hacc, by simpa using vl⟩
      | true =>
        have hl : ((S.take i).filter fun y => cE y.2 y.1).length ≤ 1000 := by
          have := List.length_filter_le (fun y : Pc × Pc => cE y.2 y.1) (S.take i)
          rw [List.length_take] at this
          omega
        refine iteT ⟨_, rfl, acc, vs, _, rfl, rfl, hacc, small1000 (by rw [vl.length, List.length_map, List.length_map]; exact hl), s3.put na, _, upd_same, ?_⟩
        have tu : TupS H3 (upd H3 acc (.lst (vs ++ [x]))) := TupS.upd hacc
        rw [if_pos rfl, List.map_append, List.map_append]
        exact (ts_pcs tu vl).append (iss_cons (ts_pc tu hz3) iss_nil)
    · rintro H3 ⟨s3, vs, hacc, vl⟩
      rw [tlen, ← sl, List.take_length] at vl
      refine ⟨_, _, rfl, .inl (is_l hacc vl), ?_⟩
      rw [List.length_map, List.length_map]
      exact kk H3 (s1.trans s3)
    · rintro σ H R R' k ⟨v1, e1, v2, e2, a, kvs, ks, v, e3, dn, is, ev, v4, e4, d, e, r, hd, b, e6, h⟩
      exact ⟨v1, e1, v2, e2, a, kvs, ks, v, e3, dn, is, ev, v4, e4, d, e, r, hd, b, e6, k _ _ h⟩
    · rintro σ H R R' k ⟨v1, e1, h⟩
      exact ⟨v1, e1, k _ _ h⟩
theorem ok_threads : FnOk P w K mg base CX0 3 T.f_threads T.d_threads ["cutting"] (spThr P w) := by
  refine T.F_threads.ok sc_threads (fun vs H Q E h => ?_) (fun cdv A outer s H vs Q E hr h => ?_)
  · obtain ⟨_, _, rfl, _⟩ := h
    rfl
  · obtain ⟨v, cs, rfl, hv, ⟨hB, hL, hN⟩, kk⟩ := h
    refine ⟨_, (pss_cons (ps_set (i := 1) sc_threads.nd rfl (by first | exact Or.inl rfl | exact Or.inr rfl) pe_nnew)
      (pss_cons (ps_set (i := 2) sc_threads.nd rfl (by first | exact Or.inl rfl | exact Or.inr rfl) (pe_lstN pa_nil))
      (pss_cons (ps_for PassesOwn.never rfl (pi_list (pv 0)) (pg_name (i := 3) sc_threads.nd rfl (by first | exact Or.inl rfl | exact Or.inr rfl)) (pss_cons (ps_set (i := 4) sc_threads.nd rfl (by first | exact Or.inl rfl | exact Or.inr rfl) (pe_call (ok_sides T) (hr.mono (by decide)) (by rfl) T.m_sides T.F_sides.kp T.B_sides .nil pass0 (pa_cons (pv 3) pa_nil)))
      (pss_cons (ps_for PassesOwn.never rfl (pi_list (pv 4)) (pg_name (i := 5) sc_threads.nd rfl (by first | exact Or.inl rfl | exact Or.inr rfl)) (pss_one (ps_nput (hu2_of hr) (pv 1) (pv 5) pe_bl rfl)))
      (pss_one (ps_if (pt_cmpR op_eq (pe_callB call_lenN (by rfl) T.n_len boot_len (pa_cons (pv 3) pa_nil)) pe_int (nomark _)) (pss_cons (ps_expr (pe_bm PySem.F.plainAttrs_list PySem.F.slot_list_append PySem.F.type_list_append mt_append (pv 2) (pa_cons (pe_tupN (pa_cons (pe_ix ix_listN (pv 4) pe_int (fun _ _ => rfl)) (pa_cons (pe_ix ix_listN (pv 4) pe_int (fun _ _ => rfl)) pa_nil))) pa_nil)))
      (pss_one (ps_expr (pe_bm PySem.F.plainAttrs_list PySem.F.slot_list_append PySem.F.type_list_append mt_append (pv 2) (pa_cons (pe_tupN (pa_cons (pe_ix ix_listN (pv 4) pe_int (fun _ _ => rfl)) (pa_cons (pe_ix ix_listN (pv 4) pe_int (fun _ _ => rfl)) pa_nil))) pa_nil))))) pss_nil)))))
      (pss_one (ps_ret (pe_call (ok_gathered T) (hr.mono (by decide)) (by rfl) T.m_gathered T.F_gathered.kp T.B_gathered .nil pass0 (pa_cons (pe_callTy (call_listN2 rfl) (by rfl) T.n_list boot_list (pa_cons (pv 1) pa_nil)) (pa_cons (pv 2) pa_nil)))))))), ?_⟩
    intro kn H0 nkn hD0 k0
    have b0 : Same H H0 := fun b o e => by rw [k0 b (by rintro rfl; rw [nkn] at e; cases e)]; exact e
    refine ⟨Nat.zero_le _, fun fa H1 nfa s1 hfa => ?_⟩
    have s01 := b0.trans s1
    obtain ⟨ca, cvs, rfl, hca, hci⟩ := of_l hv
    have clen : cvs.length = cs.length := by rw [hci.length, List.length_map]
    refine ⟨_, rfl, ca, rfl, ⟨_, SqL.of (s01 _ _ hca)⟩, for_list (xs := cvs) (fun i σ H2 => (∃ v3 v4 v5, σ = [some (.ref ca), some (.ref kn), some (.ref fa), v3, v4, v5]) ∧ Same H H2 ∧ DN P w H2 kn (trK (difF [] ((cs.take i).flatMap sidF))) ∧ ∃ fvs, H2 fa = some (.lst fvs) ∧ Iss H2 (((cs.take i).flatMap facG).map ppD) fvs) ⟨⟨none, none, none, rfl⟩, s01, hD0.mono s1, [], hfa, iss_nil⟩ (fun i σ H1 _ h => SqL.of (h.2.1 _ _ hca)) ?_ ?_⟩
    · rintro i y σ H2 hi ⟨⟨v3, v4, v5, rfl⟩, s2, hD2, fvs, hfa2, hf2⟩
      obtain ⟨dd, hdd, hy⟩ := hci.of_get hi
      rw [List.getElem?_map] at hdd
      obtain ⟨c, hc, rfl⟩ := Option.map_eq_some_iff.mp hdd
      have il : i < cs.length := (List.getElem?_eq_some_iff.mp hc).1
      have cok := hB c (List.mem_of_getElem? hc)
      have nfaH : H fa = none := b0.free nfa
      refine ⟨_, rfl, y, c, rfl, hy.mono s2, cok, fun l H3 s3 nl hl => ?_⟩
      have s03 := s2.trans s3
      obtain ⟨_, lvs, e, hl3, hli⟩ := of_l hl
      cases e
      have llen : lvs.length = (sidF c).length := by rw [hli.length, List.length_map]
      have sl4 := sidF_len c
      have tk : (cs.take (i + 1)).flatMap sidF = (cs.take i).flatMap sidF ++ sidF c := by
        rw [List.take_add_one, hc, List.flatMap_append]
        simp
      have tkf : (cs.take (i + 1)).flatMap facG = (cs.take i).flatMap facG ++ facG c := by
        rw [List.take_add_one, hc, List.flatMap_append]
        simp
      have dl : (difF [] ((cs.take i).flatMap sidF)).length ≤ 400 := by
        have h1 := difF_len ((cs.take i).flatMap sidF) []
        have h2 := flat_len (cs := cs.take i) fun c hc => hB c (List.mem_of_mem_take hc)
        rw [List.length_take] at h2
        simp only [List.length_nil] at h1
        omega
      have fl : fvs.length ≤ 200 := by
        have h2 := fac_len (cs := cs.take i)
        rw [List.length_take] at h2
        rw [hf2.length, List.length_map]
        omega
      have lfa : l ≠ fa := by rintro rfl; rw [hfa2] at nl; cases nl
      have lkn : l ≠ kn := fun z => by
        obtain ⟨_, _, _, _, e⟩ := hD2.mono s3
        rw [← z, hl3] at e
        cases e
      rw [tk, tkf, difF_app]
      generalize difF [] ((cs.take i).flatMap sidF) = D at hD2 dl ⊢
      generalize (cs.take i).flatMap facG = F at hf2 ⊢
      have fkn : fa ≠ kn := fun z => by
        obtain ⟨_, _, _, _, e⟩ := hD2
        rw [← z, hfa2] at e
        cases e
      refine ⟨_, rfl, l, rfl, ⟨_, SqL.of hl3⟩, for_list (xs := lvs) (fun j σ H4 => (∃ v5, σ = [some (.ref ca), some (.ref kn), some (.ref fa), some y, some (.ref l), v5]) ∧ Same H H4 ∧ DN P w H4 kn (trK (difF D ((sidF c).take j))) ∧ H4 l = some (.lst lvs) ∧ Iss H4 ((sidF c).map pcD) lvs ∧ H4 fa = some (.lst fvs) ∧ Iss H4 (F.map ppD) fvs) ⟨⟨_, rfl⟩, s03, hD2.mono s3, hl3, hli, s3 _ _ hfa2, hf2.mono s3⟩ (fun j σ H4 _ h => SqL.of h.2.2.2.1) ?_ ?_⟩
      · rintro j z σ H4 hj ⟨⟨v5, rfl⟩, s4, hD4, hl4, hli4, hfa4, hf4⟩
        obtain ⟨dd, hdd, hz⟩ := hli4.of_get hj
        rw [List.getElem?_map] at hdd
        obtain ⟨sd, hsd, rfl⟩ := Option.map_eq_some_iff.mp hdd
        have ll : (difF D ((sidF c).take j)).length ≤ 404 := by
          have h1 := difF_len ((sidF c).take j) D
          rw [List.length_take] at h1
          have := cok.2
          omega
        refine ⟨_, rfl, _, rfl, kn, _, wk sd, rfl, hD4, by rw [nK_pts]; exact hz, small1000 (by rw [trK_len]; omega), fun H5 hD5 k5 => ?_⟩
        have but : But kn H4 H5 := fun c o e n => by rw [k5 c n]; exact e
        have tu : TupS H4 H5 := (lts_but hD4 but).2
        rw [trK_put] at hD5
        rw [List.take_add_one, hsd]
        refine ⟨⟨_, rfl⟩, But.same s4 nkn but, ?_, (k5 l lkn).trans hl4, ts_pcs tu hli4, (k5 fa fkn).trans hfa4, ts_pps tu hf4⟩
        show DN P w H5 kn (trK (difF D ((sidF c).take j ++ [sd])))
        rw [difF_snoc]
        exact hD5
      · rintro σ H4 ⟨⟨v5, rfl⟩, s4, hD4, hl4, hli4, hfa4, hf4⟩
        rw [llen, List.take_length] at hD4
        have hy4 := hy.mono s4
        refine ⟨_, rfl, _, _, rfl, .inr hy4, rfl, _, rfl, iteE (fun e => ?_) (fun e => ?_)⟩
        · rw [List.length_map] at e
          have e4 : c.length = 4 := by omega
          obtain ⟨a0, a1, a2, a3, es⟩ : ∃ a0 a1 a2 a3, sidF c = [a0, a1, a2, a3] := by
            have : (sidF c).length = 4 := by omega
            match sidF c, this with
            | [a0, a1, a2, a3], _ => exact ⟨a0, a1, a2, a3, rfl⟩
          have ef : facG c = [(a0, a2), (a1, a3)] := by
            unfold facG
            rw [if_pos e4, es]
            rfl
          have il4 : Is H4 (.l ([a0, a1, a2, a3].map pcD)) (.ref l) := by rw [← es]; exact is_l hl4 hli4
          refine ⟨_, rfl, .inl ⟨rfl, _, SqL.of hfa4⟩, _, rfl, _, 0, _, il4, rfl, rfl, fun w0 k0 => ⟨_, rfl, _, 2, _, il4, rfl, rfl, fun w2 k2 => ⟨(by show 2 ≤ sizeLine; decide), fun t H5 nt s5 ht => ?_⟩⟩⟩
          refine ⟨fa, fvs, _, rfl, rfl, s5 _ _ hfa4, small1000 (by omega), ?_⟩
          have tu : TupS H5 (upd H5 fa (.lst (fvs ++ [.ref t]))) := TupS.upd (s5 _ _ hfa4)
          have sm6 : Same H (upd H5 fa (.lst (fvs ++ [.ref t]))) := (s4.trans s5).put nfaH
          have hD6 : DN P w (upd H5 fa (.lst (fvs ++ [.ref t]))) kn (trK (difF D (sidF c))) := (hD4.mono s5).keeps (by rw [upd_ne fkn.symm]) tu
          have hf6 : Iss (upd H5 fa (.lst (fvs ++ [.ref t]))) ((F ++ [(a0, a2)]).map ppD) (fvs ++ [.ref t]) := by
            rw [List.map_append]
            exact (ts_pps tu (hf4.mono s5)).append (iss_cons (ts_pp tu (is_t ht (iss_cons (k0.mono s5) (iss_cons (k2.mono s5) iss_nil)))) iss_nil)
          have hl6 : Is (upd H5 fa (.lst (fvs ++ [.ref t]))) (.l ([a0, a1, a2, a3].map pcD)) (.ref l) := by
            rw [← es]
            exact is_l (by rw [upd_ne lfa]; exact s5 _ _ hl4) (ts_pcs tu (hli4.mono s5))
          have hfa6 : (upd H5 fa (.lst (fvs ++ [.ref t]))) fa = some (.lst (fvs ++ [.ref t])) := upd_same
          generalize upd H5 fa (.lst (fvs ++ [.ref t])) = H6 at sm6 hD6 hf6 hl6 hfa6 ⊢
          have fl6 : (fvs ++ [V.ref t]).length ≤ 201 := by rw [List.length_append]; simp; omega
          generalize fvs ++ [V.ref t] = gvs at hf6 hfa6 fl6
          refine ⟨_, rfl, .inl ⟨rfl, _, SqL.of hfa6⟩, _, rfl, _, 1, _, hl6, rfl, rfl, fun w1 k1 => ⟨_, rfl, _, 3, _, hl6, rfl, rfl, fun w3 k3 => ⟨(by show 2 ≤ sizeLine; decide), fun t2 H7 nt2 s7 ht2 => ?_⟩⟩⟩
          refine ⟨fa, gvs, _, rfl, rfl, s7 _ _ hfa6, small1000 (by omega), ⟨_, _, _, rfl⟩, (sm6.trans s7).put nfaH, ?_⟩
          have tu : TupS H7 (upd H7 fa (.lst (gvs ++ [.ref t2]))) := TupS.upd (s7 _ _ hfa6)
          refine ⟨(hD6.mono s7).keeps (by rw [upd_ne fkn.symm]) tu, _, upd_same, ?_⟩
          rw [ef, show F ++ [(a0, a2), (a1, a3)] = (F ++ [(a0, a2)]) ++ [(a1, a3)] by simp, List.map_append]
          exact (ts_pps tu (hf6.mono s7)).append (iss_cons (ts_pp tu (is_t ht2 (iss_cons (k1.mono s7) (iss_cons (k3.mono s7) iss_nil)))) iss_nil)
        · rw [List.length_map] at e
          have ef : facG c = [] := by
            unfold facG
            rw [if_neg (by omega)]
          rw [ef, List.append_nil]
          exact ⟨⟨_, _, _, rfl⟩, s4, hD4, fvs, hfa4, hf4⟩
    · rintro σ H2 ⟨⟨v3, v4, v5, rfl⟩, s2, hD2, fvs, hfa2, hf2⟩
      rw [clen, List.take_length] at hD2 hf2
      have dl : (difF [] (cs.flatMap sidF)).length ≤ 400 := by
        have h1 := difF_len (cs.flatMap sidF) []
        have h2 := flat_len (cs := cs) hB
        simp only [List.length_nil] at h1
        omega
      refine ⟨_, rfl, kn, _, rfl, hD2, by rw [trK_len]; omega, fun l H3 nl s3 hl => ?_⟩
      rw [trK_keys] at hl
      refine ⟨_, rfl, _, _, difF [] (cs.flatMap sidF), cs.flatMap facG, rfl, hl, is_l (s3 _ _ hfa2) (hf2.mono s3), difF_nd List.nodup_nil, by omega, fun x hx => ?_, fun a H4 kvs s4 na hD4 g4 => kk a H4 kvs ((s2.trans s3).trans s4) ((s2.trans s3).free na) hD4 g4⟩
      obtain ⟨c, hc, hx⟩ := List.mem_flatMap.mp hx
      obtain ⟨m1, m2⟩ := fac_mem hx
      exact ⟨difF_mem.mpr (.inr (List.mem_flatMap.mpr ⟨c, hc, m1⟩)), difF_mem.mpr (.inr (List.mem_flatMap.mpr ⟨c, hc, m2⟩))⟩
theorem ok_corner_pieces : FnOk P w K mg base CX0 1 T.f_corner_pieces T.d_corner_pieces ["cutting"] (spCor K) := by
  refine T.F_corner_pieces.ok sc_corner_pieces (fun vs H Q E h => ?_) (fun cdv A outer s H vs Q E hr h => ?_)
  · obtain ⟨_, _, rfl, _⟩ := h
    rfl
  · obtain ⟨v, cs, rfl, hv, ⟨hB, hL, hN⟩, kk⟩ := h
    refine ⟨_, (pss_one (ps_ret (pe_compB (XN := ["cutting"]) (sc := defScope s_corner_pieces) (N := ["piece"]) (own := 1) (js := []) rfl (by decide +kernel) rfl rfl (pi_list (pv 0)) (fun _ _ _ _ => (pg_name (i := 0) (show List.Nodup (["piece"] : List Str) by decide +kernel) rfl (Or.inl rfl) (.inr rfl))) (ownG_name (by decide)) (fun _ _ _ _ => (pifs_one (pt_cmpR op_eq (pe_callB call_lenN (by rfl) T.n_len boot_len (pa_cons (pv 0) pa_nil)) pe_int (nomark _)))) (fun _ _ _ _ => (pv 0))))), ?_⟩
    obtain ⟨ca, cvs, rfl, hca, hci⟩ := of_l hv
    have clen : cvs.length = cs.length := by rw [hci.length, List.length_map]
    refine ⟨_, rfl, ca, rfl, ⟨_, SqL.of hca⟩, fun acc na => ?_⟩
    refine comp_list (xs := cvs) (own := 1) (js := []) (fun i H3 => Same H H3 ∧ ∃ vs, H3 acc = some (.lst vs) ∧ Iss H3 ((corF (cs.take i)).map pcD) vs) ⟨Same.new na, [], upd_same, iss_nil⟩ (fun i H3 _ h => SqL.of (h.1 _ _ hca)) ?_ ?_ mono_name ?_ ?_
    · rintro i x H3 hi ⟨s3, vs, hacc, vl⟩
      obtain ⟨dd, hdd, hz⟩ := hci.of_get hi
      rw [List.getElem?_map] at hdd
      obtain ⟨c, hc, rfl⟩ := Option.map_eq_some_iff.mp hdd
      have il : i < cs.length := (List.getElem?_eq_some_iff.mp hc).1
      have hz3 := hz.mono s3
      refine ⟨_, rfl, _, _, rfl, .inr hz3, rfl, _, rfl, iteE (fun e => ?_) (fun e => ?_)⟩
      · rw [List.length_map] at e
        have cl := cor_len (cs.take i)
        rw [List.length_take] at cl
        refine ⟨_, rfl, acc, vs, _, rfl, rfl, hacc, small1000 (by rw [vl.length, List.length_map]; omega), s3.put na, _, upd_same, ?_⟩
        have tu : TupS H3 (upd H3 acc (.lst (vs ++ [x]))) := TupS.upd hacc
        rw [cor_next hc, if_pos (by omega), List.map_append]
        exact (ts_pcs tu vl).append (iss_cons (ts_pc tu hz3) iss_nil)
      · rw [List.length_map] at e
        refine ⟨s3, vs, hacc, ?_⟩
        rw [cor_next hc, if_neg (by omega), List.append_nil]
        exact vl
    · rintro H3 ⟨s3, vs, hacc, vl⟩
      rw [clen, List.take_length] at vl
      exact kk acc H3 s3 na (is_l hacc vl)
    · rintro σ H R R' k ⟨v1, e1, v2, e2, e3, h3, e4, b, e6, h⟩
      exact ⟨v1, e1, v2, e2, e3, h3, e4, b, e6, k _ _ h⟩
    · rintro σ H R R' k ⟨v1, e1, h⟩
      exact ⟨v1, e1, k _ _ h⟩
theorem ok_joined : FnOk P w K mg base CX0 4 T.f_joined T.d_joined ["cutting"] (spJoi K) := by
  refine T.F_joined.ok sc_joined (fun vs H Q E h => ?_) (fun cdv A outer s H vs Q E hr h => ?_)
  · obtain ⟨_, _, rfl, _⟩ := h
    rfl
  · obtain ⟨v, cs, rfl, hv, hC, kk⟩ := h
    obtain ⟨hB, hL, hN⟩ := id hC
    refine ⟨_, (pss_cons (ps_set (i := 1) sc_joined.nd rfl (by first | exact Or.inl rfl | exact Or.inr rfl) (pe_call (ok_threads T) (hr.mono (by decide)) (by rfl) T.m_threads T.F_threads.kp T.B_threads .nil pass0 (pa_cons (pv 0) pa_nil)))
      (pss_cons (ps_set (i := 2) sc_joined.nd rfl (by first | exact Or.inl rfl | exact Or.inr rfl) pe_nnew)
      (pss_cons (ps_set (i := 3) sc_joined.nd rfl (by first | exact Or.inl rfl | exact Or.inr rfl) (pe_lstN pa_nil))
      (pss_cons (ps_for PassesOwn.never rfl (pi_list (pe_call (ok_corner_pieces T) (hr.mono (by decide)) (by rfl) T.m_corner_pieces T.F_corner_pieces.kp T.B_corner_pieces .nil pass0 (pa_cons (pv 0) pa_nil))) (pg_name (i := 4) sc_joined.nd rfl (by first | exact Or.inl rfl | exact Or.inr rfl)) (pss_one (ps_for PassesOwn.never rfl (pi_list (pe_call (ok_sides T) (hr.mono (by decide)) (by rfl) T.m_sides T.F_sides.kp T.B_sides .nil pass0 (pa_cons (pv 4) pa_nil))) (pg_name (i := 5) sc_joined.nd rfl (by first | exact Or.inl rfl | exact Or.inr rfl)) (pss_cons (ps_set (i := 6) sc_joined.nd rfl (by first | exact Or.inl rfl | exact Or.inr rfl) (pe_nget (hu2_of hr) (pv 1) (pv 5) (fun _ _ => rfl)))
      (pss_one (ps_if (pt_cmp (pc_nin (hu2_of hr) (pv 6) (pv 2)) rfl) (pss_one (ps_expr (pe_bm PySem.F.plainAttrs_list PySem.F.slot_list_append PySem.F.type_list_append mt_append (pv 3) (pa_cons (pe_tupN (pa_cons (pe_nget (hu2_of hr) (pv 2) (pv 6) (fun _ _ => rfl)) (pa_cons (pv 4) pa_nil))) pa_nil)))) (pss_one (ps_nput (hu2_of hr) (pv 2) (pv 6) (pv 4) rfl))))))))
      (pss_one (ps_ret (pv 3))))))), ?_⟩
    refine ⟨_, rfl, v, cs, rfl, hv, hC, fun th H1 tkv s1 nth hDt gt => ?_⟩
    intro fi H2 nfi hDf k2
    have b2 : Same H1 H2 := fun b o e => by rw [k2 b (by rintro rfl; rw [nfi] at e; cases e)]; exact e
    have s02 := s1.trans b2
    have nfiH : H fi = none := s1.free nfi
    have tf : th ≠ fi := by
      rintro rfl
      obtain ⟨_, _, _, _, e⟩ := hDt
      rw [nfi] at e
      cases e
    refine ⟨Nat.zero_le _, fun pa H3 npa s3 hpa => ?_⟩
    have s03 := s02.trans s3
    have npaH : H pa = none := s02.free npa
    have pf : pa ≠ fi := by
      rintro rfl
      obtain ⟨_, _, _, _, e⟩ := hDf
      rw [npa] at e
      cases e
    have pt' : pa ≠ th := by
      rintro rfl
      obtain ⟨_, _, _, _, e⟩ := hDt.mono b2
      rw [npa] at e
      cases e
    refine ⟨_, rfl, v, cs, rfl, hv.mono s03, hC, fun cl H4 s4 ncl hcl => ?_⟩
    have s04 := s03.trans s4
    obtain ⟨_, cvs, e, hcl4, hci⟩ := of_l hcl
    cases e
    have clen : cvs.length = (corF cs).length := by rw [hci.length, List.length_map]
    have ncf : cl ≠ fi := by
      rintro rfl
      obtain ⟨_, _, _, _, e⟩ := hDf.mono s3
      rw [ncl] at e
      cases e
    have ncp : cl ≠ pa := by rintro rfl; rw [hpa] at ncl; cases ncl
    have corl := cor_len cs
    unfold joiF joG at kk
    generalize hT : thrF cs = T' at gt kk
    refine ⟨cl, rfl, ⟨_, SqL.of hcl4⟩, for_list (xs := cvs) (fun i σ H5 => (∃ v4 v5 v6, σ = [some v, some (.ref th), some (.ref fi), some (.ref pa), v4, v5, v6]) ∧ Same H H5 ∧ DN P w H5 th tkv ∧ GR H5 T' tkv ∧ H5 cl = some (.lst cvs) ∧ Iss H5 ((corF cs).map pcD) cvs ∧ (∃ fkv, DN P w H5 fi fkv ∧ GR H5 (((corF cs).take i).foldl (jo2 T') ([], [])).1 fkv) ∧ ∃ pvs, H5 pa = some (.lst pvs) ∧ Iss H5 ((((corF cs).take i).foldl (jo2 T') ([], [])).2.map ppD) pvs) ⟨⟨none, none, none, rfl⟩, s04, ((hDt.mono b2).mono s3).mono s4, ((gt.ts (TupS.of_same b2)).ts (TupS.of_same s3)).ts (TupS.of_same s4), hcl4, hci, ⟨[], (hDf.mono s3).mono s4, .nil⟩, [], s4 _ _ hpa, iss_nil⟩ (fun i σ H5 _ h => SqL.of h.2.2.2.2.1) ?_ ?_⟩
    · rintro i y σ H5 hi ⟨⟨v4, v5, v6, rfl⟩, s5, hDt5, gt5, hcl5, hci5, ⟨fkv, hDf5, gf5⟩, pvs, hpa5, hp5⟩
      obtain ⟨dd, hdd, hy⟩ := hci5.of_get hi
      rw [List.getElem?_map] at hdd
      obtain ⟨c, hc, rfl⟩ := Option.map_eq_some_iff.mp hdd
      have il : i < (corF cs).length := (List.getElem?_eq_some_iff.mp hc).1
      obtain ⟨cm, c3⟩ := cor_mem (List.mem_of_getElem? hc)
      have nx : ((corF cs).take (i + 1)).foldl (jo2 T') ([], []) = jo2 T' (((corF cs).take i).foldl (jo2 T') ([], [])) c := by
        rw [List.take_add_one, hc, List.foldl_append]
        rfl
      have fjl := jo2s_len T' ((corF cs).take i) ([], []) fun x hx => by have := (cor_mem (List.mem_of_mem_take hx)).2; omega
      rw [List.length_take] at fjl
      simp only [List.length_nil] at fjl
      rw [nx]
      generalize ((corF cs).take i).foldl (jo2 T') ([], []) = FJ at gf5 hp5 fjl ⊢
      refine ⟨_, rfl, y, c, rfl, hy, hB c cm, fun sl H6 s6 nsl hsl => ?_⟩
      obtain ⟨_, svs, e, hsl6, hsi⟩ := of_l hsl
      cases e
      have slen : svs.length = (sidF c).length := by rw [hsi.length, List.length_map]
      have sl3 := sidF_len c
      have nsf : sl ≠ fi := by
        rintro rfl
        obtain ⟨_, _, _, _, e⟩ := hDf5
        rw [nsl] at e
        cases e
      have nsp : sl ≠ pa := by rintro rfl; rw [hpa5] at nsl; cases nsl
      refine ⟨sl, rfl, ⟨_, SqL.of hsl6⟩, for_list (xs := svs) (fun j σ H7 => (∃ v5 v6, σ = [some v, some (.ref th), some (.ref fi), some (.ref pa), some y, v5, v6]) ∧ Same H H7 ∧ DN P w H7 th tkv ∧ GR H7 T' tkv ∧ H7 cl = some (.lst cvs) ∧ Iss H7 ((corF cs).map pcD) cvs ∧ H7 sl = some (.lst svs) ∧ Iss H7 ((sidF c).map pcD) svs ∧ Is H7 (pcD c) y ∧ (∃ fkv, DN P w H7 fi fkv ∧ GR H7 (((sidF c).take j).foldl (jo1 T' c) FJ).1 fkv) ∧ ∃ pvs, H7 pa = some (.lst pvs) ∧ Iss H7 ((((sidF c).take j).foldl (jo1 T' c) FJ).2.map ppD) pvs) ⟨⟨_, _, rfl⟩, s5.trans s6, hDt5.mono s6, gt5.ts (TupS.of_same s6), s6 _ _ hcl5, hci5.mono s6, hsl6, hsi, hy.mono s6, ⟨fkv, hDf5.mono s6, gf5.ts (TupS.of_same s6)⟩, pvs, s6 _ _ hpa5, hp5.mono s6⟩ (fun j σ H7 _ h => SqL.of h.2.2.2.2.2.2.1) ?_ ?_⟩
      · rintro j z σ H7 hj ⟨⟨v5, v6, rfl⟩, s7, hDt7, gt7, hcl7, hci7, hsl7, hsi7, hy7, ⟨fkv, hDf7, gf7⟩, pvs, hpa7, hp7⟩
        obtain ⟨dd, hdd, hz⟩ := hsi7.of_get hj
        rw [List.getElem?_map] at hdd
        obtain ⟨sd, hsd, rfl⟩ := Option.map_eq_some_iff.mp hdd
        have jl : j < (sidF c).length := (List.getElem?_eq_some_iff.mp hsd).1
        have nx : ((sidF c).take (j + 1)).foldl (jo1 T' c) FJ = jo1 T' c (((sidF c).take j).foldl (jo1 T' c) FJ) sd := by
          rw [List.take_add_one, hsd, List.foldl_append]
          rfl
        have fl := jo1s_len T' c ((sidF c).take j) FJ
        rw [List.length_take] at fl
        rw [nx]
        generalize ((sidF c).take j).foldl (jo1 T' c) FJ = GJ at gf7 hp7 fl ⊢
        obtain ⟨tv, etv, htv⟩ := gt7.get (k := sd) (by rw [← hT]; exact side_key cm (List.mem_of_getElem? hsd))
        have hask := gf7.has (k := getS T' sd)
        have fkl := gf7.len
        have pvl : pvs.length = GJ.2.length := by rw [hp7.length, List.length_map]
        refine ⟨_, rfl, _, rfl, th, tkv, wk sd, tv, rfl, hDt7, by rw [nK_pts]; exact hz, etv, ?_⟩
        unfold jo1
        generalize getS T' sd = tt at htv hask ⊢
        refine ⟨_, rfl, _, rfl, fi, fkv, wk tt, rfl, hDf7, by rw [nK_pts]; exact htv, _, rfl, ?_⟩
        rw [hask]
        cases hb : hasS GJ.1 tt with
        | true =>
          obtain ⟨fv, efv, hfv⟩ := gf7.get (k := tt) (hasS_iff.mp hb)
          refine iteT ⟨_, rfl, .inl ⟨rfl, _, SqL.of hpa7⟩, _, rfl, _, rfl, fi, fkv, wk tt, fv, rfl, hDf7, by rw [nK_pts]; exact htv, efv, _, rfl, (by show 2 ≤ sizeLine; decide), fun t H8 nt s8 ht => ?_⟩
          refine ⟨pa, pvs, _, rfl, rfl, s8 _ _ hpa7, small1000 (by omega), ?_⟩
          have tu : TupS H8 (upd H8 pa (.lst (pvs ++ [.ref t]))) := TupS.upd (s8 _ _ hpa7)
          have t78 : TupS H7 (upd H8 pa (.lst (pvs ++ [.ref t]))) := (TupS.of_same s8).trans tu
          refine ⟨⟨_, _, rfl⟩, (s7.trans s8).put npaH, (hDt7.mono s8).keeps (by rw [upd_ne pt'.symm]) tu, gt7.ts t78, by rw [upd_ne ncp]; exact s8 _ _ hcl7, ts_pcs t78 hci7, by rw [upd_ne nsp]; exact s8 _ _ hsl7, ts_pcs t78 hsi7, ts_pc t78 hy7, ⟨fkv, (hDf7.mono s8).keeps (by rw [upd_ne pf.symm]) tu, gf7.ts t78⟩, _, upd_same, ?_⟩
          rw [List.map_append]
          exact (ts_pps t78 hp7).append (iss_cons (ts_pp tu (is_t ht (iss_cons (hfv.mono s8) (iss_cons (hy7.mono s8) iss_nil)))) iss_nil)
        | false =>
          refine iteF ⟨_, rfl, _, rfl, _, rfl, fi, fkv, wk tt, rfl, hDf7, by rw [nK_pts]; exact htv, small1000 (by omega), fun H8 hD8 k8 => ?_⟩
          have but : But fi H7 H8 := fun c o e n => by rw [k8 c n]; exact e
          have tu : TupS H7 H8 := (lts_but hDf7 but).2
          exact ⟨⟨_, _, rfl⟩, But.same s7 nfiH but, DN.but hDt7 hDf7 but tf, gt7.ts tu, (k8 cl ncf).trans hcl7, ts_pcs tu hci7, (k8 sl nsf).trans hsl7, ts_pcs tu hsi7, ts_pc tu hy7, ⟨_, hD8, (gf7.ts tu).new hb (ts_pc tu hy7)⟩, pvs, (k8 pa pf).trans hpa7, ts_pps tu hp7⟩
      · rintro σ H7 ⟨⟨v5, v6, rfl⟩, s7, hDt7, gt7, hcl7, hci7, hsl7, hsi7, hy7, hf7, hp7⟩
        rw [slen, List.take_length] at hf7 hp7
        exact ⟨⟨_, _, _, rfl⟩, s7, hDt7, gt7, hcl7, hci7, hf7, hp7⟩
    · rintro σ H5 ⟨⟨v4, v5, v6, rfl⟩, s5, hDt5, gt5, hcl5, hci5, hf5, pvs, hpa5, hp5⟩
      rw [clen, List.take_length] at hp5
      exact ⟨_, rfl, kk pa H5 s5 npaH (is_l hpa5 hp5)⟩
theorem ok_cut_parts : FnOk P w K mg base CX0 5 T.f_cut_parts T.d_cut_parts ["cutting"] (spInt fun cs => (parF cs : Int)) := by
  refine T.F_cut_parts.ok sc_cut_parts (fun vs H Q E h => ?_) (fun cdv A outer s H vs Q E hr h => ?_)
  · obtain ⟨_, _, rfl, _⟩ := h
    rfl
  · obtain ⟨v, cs, rfl, hv, hC, kk⟩ := h
    refine ⟨_, (pss_one (ps_ret (pe_call (ok_how_many_sets T) (hr.mono (by decide)) (by rfl) T.m_how_many_sets T.F_how_many_sets.kp T.B_how_many_sets .nil pass0 (pa_cons (pe_call (ok_corner_pieces T) (hr.mono (by decide)) (by rfl) T.m_corner_pieces T.F_corner_pieces.kp T.B_corner_pieces .nil pass0 (pa_cons (pv 0) pa_nil)) (pa_cons (pe_call (ok_joined T) (hr.mono (by decide)) (by rfl) T.m_joined T.F_joined.kp T.B_joined .nil pass0 (pa_cons (pv 0) pa_nil)) pa_nil))))), ?_⟩
    refine ⟨_, rfl, v, cs, rfl, hv, hC, fun l H1 s1 nl hl => ?_⟩
    refine ⟨_, rfl, v, cs, rfl, hv.mono s1, hC, fun j H2 s2 nj hj => ?_⟩
    have cl := cor_len cs
    have h100 := hC.2.1
    exact ⟨_, _, corF cs, joiF cs, rfl, hl.mono s2, hj, hC.2.2, by omega, joi_in cs, fun H3 s3 => kk H3 ((s1.trans s2).trans s3)⟩
theorem ok__law_sides : FnOk P w K mg base CX0 2 T.f__law_sides T.d__law_sides ["_law_piece"] (spLsd K) := by
  refine T.F__law_sides.ok sc__law_sides (fun vs H Q E h => ?_) (fun cdv A outer s H vs Q E hr h => ?_)
  · obtain ⟨_, _, rfl, _⟩ := h
    rfl
  · obtain ⟨v, c, rfl, hv, hB, kk⟩ := h
    refine ⟨_, (pss_cons (ps_set (i := 1) sc__law_sides.nd rfl (by first | exact Or.inl rfl | exact Or.inr rfl) (pe_lstN pa_nil))
      (pss_cons (ps_for PassesOwn.never rfl (pi_range1 (by rfl) T.n_range (pa_cons (pe_callB call_lenN (by rfl) T.n_len boot_len (pa_cons (pv 0) pa_nil)) pa_nil)) (pg_name (i := 2) sc__law_sides.nd rfl (by first | exact Or.inl rfl | exact Or.inr rfl)) (pss_cons (ps_par (i := 3) (j := 4) rfl sc__law_sides.nd rfl rfl (by decide) rfl rfl (pa_cons (pe_ix ix_tupN (pv 0) (pv 2) (fun _ _ => rfl)) (pa_cons (pe_ix ix_tupN (pv 0) (pe_op op_mod (pe_op op_add (pv 2) pe_int) (pe_callB call_lenN (by rfl) T.n_len boot_len (pa_cons (pv 0) pa_nil))) (fun _ _ => rfl)) pa_nil)) rfl)
      (pss_one (ps_expr (pe_bm PySem.F.plainAttrs_list PySem.F.slot_list_append PySem.F.type_list_append mt_append (pv 1) (pa_cons (pe_tupN (pa_cons (pe_callB (call_minS rfl hr) (by rfl) T.n_min boot_min (pa_cons (pv 3) (pa_cons (pv 4) pa_nil))) (pa_cons (pe_callB (call_maxP rfl hr) (by rfl) T.n_max boot_max (pa_cons (pv 3) (pa_cons (pv 4) pa_nil))) pa_nil))) pa_nil))))))
      (pss_one (ps_ret (pv 1))))), ?_⟩
    have cl := hB.2
    refine ⟨Nat.zero_le _, fun fo H1 nfo s1 hfo => ?_⟩
    refine ⟨_, rfl, _, _, rfl, .inr (hv.mono s1), _, rfl, by rw [List.length_map]; omega, by rw [List.length_map]; omega, ?_⟩
    rw [List.length_map, Int.toNat_natCast]
    refine for_range (lo := 0) (n := c.length) (fun i σ H2 => (∃ v2 v3 v4, σ = [some v, some (.ref fo), v2, v3, v4]) ∧ Same H H2 ∧ ∃ zs, H2 fo = some (.lst zs) ∧ Iss H2 (((List.range i).map (lsd1 c)).map pcD) zs) ⟨⟨none, none, none, rfl⟩, s1, [], hfo, iss_nil⟩ ?_ ?_
    · rintro i σ H2 hi ⟨⟨v2, v3, v4, rfl⟩, s2, zs, hfo2, hz⟩
      rw [Int.zero_add]
      have hv2 := hv.mono s2
      have hm : (i + 1) % c.length < c.length := Nat.mod_lt _ (by omega)
      refine ⟨_, rfl, _, rfl, c.map pt, (i : Int), _, hv2, rfl, at_ptD hi, fun u hu => ?_⟩
      have em : ((i : Int) + 1) % (((c.map pt).length : Nat) : Int) = (((i + 1) % c.length : Nat) : Int) := by rw [List.length_map, Int.natCast_emod, Int.natCast_add]; rfl
      refine ⟨_, rfl, _, rfl, _, _, rfl, rfl, _, rfl, _, _, rfl, .inr hv2, _, _, rfl, rfl, (show (0 : Int) < _ by rw [List.length_map]; omega), c.map pt, _, _, hv2, rfl, by rw [em]; exact at_ptD hm, fun u' hu' => ⟨_, _, rfl, ?_⟩⟩
      generalize hp : c.getD i zP = p at hu
      generalize hq : c.getD ((i + 1) % c.length) zP = q at hu'
      obtain ⟨b1, rfl, hb1⟩ := of_pt hu
      obtain ⟨b2, rfl, hb2⟩ := of_pt hu'
      have zl : zs.length = i := by rw [hz.length, List.length_map, List.length_map, List.length_range]
      refine ⟨_, rfl, .inl ⟨rfl, _, SqL.of hfo2⟩, _, rfl, _, rfl, _, _, 1, _, rfl, ltr_pt hu' hu, by decide, _, rfl, _, rfl, b1, b2, p, q, rfl, SqT.of hb1, SqT.of hb2, (by show 2 ≤ sizeLine; decide), fun t H3 nt s3 ht3 => ?_⟩
      refine ⟨fo, zs, _, rfl, rfl, s3 _ _ hfo2, small1000 (by omega), ?_⟩
      have tu : TupS H3 (upd H3 fo (.lst (zs ++ [.ref t]))) := TupS.upd (s3 _ _ hfo2)
      have hmin : Is H2 (pt (minQ p q)) (if ltPt q p = true then V.ref b2 else V.ref b1) := by
        unfold minQ
        cases ltPt q p
        · exact hu
        · exact hu'
      have hmax : Is H2 (pt (maxQ p q)) (if gtI q p = true then V.ref b2 else V.ref b1) := by
        unfold maxQ
        cases gtI q p
        · exact hu
        · exact hu'
      refine ⟨⟨_, _, _, rfl⟩, (s2.trans s3).put nfo, _, upd_same, ?_⟩
      rw [List.range_succ, List.map_append, List.map_append]
      refine (ts_pcs tu (hz.mono s3)).append (iss_cons (ts_pc tu ?_) iss_nil)
      show Is H3 (pcD [minQ (c.getD i zP) (c.getD ((i + 1) % c.length) zP), maxQ (c.getD i zP) (c.getD ((i + 1) % c.length) zP)]) _
      rw [hp, hq]
      exact is_t ht3 (iss_cons (hmin.mono s3) (iss_cons (hmax.mono s3) iss_nil))
    · rintro σ H2 ⟨⟨v2, v3, v4, rfl⟩, s2, zs, hfo2, hz⟩
      exact ⟨_, rfl, kk fo H2 s2 nfo (is_l hfo2 hz)⟩
theorem any_isS {a : List Pc} {s : Pc} : ((List.range a.length).any fun j => decide (a.getD j [] = s)) = isS a s := by
  rw [Bool.eq_iff_iff, List.any_eq_true, isS_iff]
  constructor
  · rintro ⟨j, hj, e⟩
    have hj := List.mem_range.mp hj
    rw [← of_decide_eq_true e, List.getD_eq_getElem?_getD, List.getElem?_eq_getElem hj]
    exact List.getElem_mem hj
  · intro h
    obtain ⟨j, hj, e⟩ := List.mem_iff_getElem.mp h
    refine ⟨j, List.mem_range.mpr hj, decide_eq_true ?_⟩
    rw [List.getD_eq_getElem?_getD, List.getElem?_eq_getElem hj, ← e]
    rfl
theorem idx_at {s : Pc} : ∀ {a : List Pc}, s ∈ a → idxF a s < a.length ∧ a.getD (idxF a s) [] = s ∧ ∀ m, m < idxF a s → a.getD m [] ≠ s
  | [], h => nomatch h
  | x :: a, h => by
    unfold idxF
    by_cases e : x = s
    · rw [cE_iff.mpr e]
      exact ⟨Nat.succ_pos _, e, fun m hm => absurd hm (Nat.not_lt_zero _)⟩
    · rw [cE_ne e]
      obtain ⟨h1, h2, h3⟩ := idx_at ((List.mem_cons.mp h).resolve_left fun z => e z.symm)
      refine ⟨Nat.succ_lt_succ h1, h2, fun m hm => ?_⟩
      cases m with
      | zero => exact e
      | succ m => exact h3 m (Nat.lt_of_succ_lt_succ hm)
theorem is_pts_one {H : Hp} : ∀ {ps qs : List Pt} {vs : List V}, Iss H (ps.map pt) vs → Iss H (qs.map pt) vs → ps = qs
  | [], [], _, _, _ => rfl
  | [], q :: qs, _, h, k => by rw [of_nil h] at k; obtain ⟨_, _, e, _⟩ := of_cons k; cases e
  | p :: ps, [], _, h, k => by rw [of_nil k] at h; obtain ⟨_, _, e, _⟩ := of_cons h; cases e
  | p :: ps, q :: qs, _, h, k => by
    obtain ⟨u, us, rfl, h1, h2⟩ := of_cons h
    obtain ⟨_, _, e, k1, k2⟩ := of_cons k
    cases e
    obtain ⟨a, rfl, ha⟩ := of_pt h1
    obtain ⟨b, e, hb⟩ := of_pt k1
    cases e
    rw [ha] at hb
    injection hb with e1
    injection e1 with e1
    injection e1 with e2 e3
    injection e3 with e3
    rw [Prod.ext (V.int.inj e2) (V.int.inj e3), is_pts_one h2 k2]
theorem is_pc_one {H : Hp} {a b : Pc} {v : V} (h : Is H (pcD a) v) (k : Is H (pcD b) v) : a = b := by
  obtain ⟨x, vs, rfl, hx, hi⟩ := of_t h
  obtain ⟨y, ws, e, hy, hj⟩ := of_t k
  cases e
  rw [hx] at hy
  cases hy
  exact is_pts_one hi hj
theorem told_sd {H : Hp} {a : List Pc} {s : Pc} {vs : List V} {sv : V} (h : Iss H (a.map pcD) vs) (k : Is H (pcD s) sv) : Told1 K H 2 vs sv (fun j => decide (a.getD j [] = s)) := by
  have at_ : ∀ (j : Nat) z, vs[j]? = some z → Is H (pcD (a.getD j [])) z := fun j z hz => by
    obtain ⟨d, hd, hi⟩ := h.of_get hz
    rw [List.getElem?_map] at hd
    obtain ⟨x, hx, rfl⟩ := Option.map_eq_some_iff.mp hd
    rw [List.getD_eq_getElem?_getD, hx]
    exact hi
  refine ⟨by decide, fun j z hz => ⟨?_, eqr_pc (at_ j z hz) k⟩, fun i j z hi hj => ?_⟩
  · obtain ⟨b, _, e, _⟩ := of_t (at_ j z hz)
    exact ⟨b, e⟩
  · show decide (a.getD i [] = s) = decide (a.getD j [] = s)
    rw [is_pc_one (at_ i z hi) (at_ j z hj)]
theorem at_ar {A : List (List Pc)} {k : Nat} (h : k < A.length) : atI (A.map sdD) (k : Int) = some (sdD (A.getD k [])) := by
  refine ix_D (j := k) rfl ?_
  rw [List.getElem?_map, List.getElem?_eq_getElem h, List.getD_eq_getElem?_getD, List.getElem?_eq_getElem h]
  rfl
theorem at_sd {a : List Pc} {k : Nat} (h : k < a.length) : atI (a.map pcD) (k : Int) = some (pcD (a.getD k [])) := by
  refine ix_D (j := k) rfl ?_
  rw [List.getElem?_map, List.getElem?_eq_getElem h, List.getD_eq_getElem?_getD, List.getElem?_eq_getElem h]
  rfl
theorem nx_succ {A : List (List Pc)} {p k : Nat} {s : Pc} : (List.range (k + 1)).filter (lnxP A p s) = (List.range k).filter (lnxP A p s) ++ if lnxP A p s k = true then [k] else [] := by
  rw [List.range_succ, List.filter_append]
  simp only [List.filter_cons, List.filter_nil]
theorem ok__law_end : FnOk P w K mg base CX0 1 T.f__law_end T.d__law_end ["_law_around", "_law_place", "_law_side"] (spLen K) := by
  refine T.F__law_end.ok sc__law_end (fun vs H Q E h => ?_) (fun cdv A outer s H vs Q E hr h => ?_)
  · obtain ⟨_, _, _, _, _, rfl, _⟩ := h
    rfl
  · obtain ⟨v, sv, B, p0, s0, rfl, hv, hs0, ⟨hL, hA⟩, kk⟩ := h
    refine ⟨_, (pss_cons (ps_for PassesOwn.never rfl (pi_range1 (by rfl) T.n_range (pa_cons (pe_op op_add (pe_op op_mul pe_int (pe_callB call_lenN (by rfl) T.n_len boot_len (pa_cons (pv 0) pa_nil))) pe_int) pa_nil)) (pg_name (i := 3) sc__law_end.nd rfl (by first | exact Or.inl rfl | exact Or.inr rfl)) (pss_cons (ps_setcB (i := 4) sc__law_end.nd rfl (by first | exact Or.inl rfl | exact Or.inr rfl) (.inl rfl) (XN := ["_law_around", "_law_place", "_law_side", "_law_turn", "_law_nexts"]) (sc := defScope s__law_end) (N := ["_law_k", "_law_around", "_law_place", "_law_side"]) (own := 1) (js := [0, 1, 2]) rfl (by decide +kernel) rfl rfl (pi_range1 (by rfl) T.n_range (pa_cons (pe_callB call_lenN (by rfl) T.n_len boot_len (pa_cons (pv 0) pa_nil)) pa_nil)) (fun _ _ _ _ => (pg_name (i := 0) (show List.Nodup (["_law_k", "_law_around", "_law_place", "_law_side"] : List Str) by decide +kernel) rfl (Or.inl rfl) (.inr rfl))) (ownG_name (by decide)) (fun _ _ _ _ => (pifs_one (pw_and (pt_cmpR op_ne (pv 0) (pv 2) (nomark _)) (pw_and1 (pt_cmpR (op_inDK (K := K) rfl hr) (pv 3) (pe_ix ix_listN (pv 1) (pv 0) (fun _ _ => rfl)) rfl))).pt)) (fun _ _ _ _ => (pv 0)))
      (pss_cons (ps_if (pt_cmpR (op_eqS hr) (pv 4) (pe_lstN pa_nil) (nomark _)) (pss_one (ps_ret (pe_un un_neg pe_int))) pss_nil)
      (pss_cons (ps_set (i := 1) sc__law_end.nd rfl (by first | exact Or.inl rfl | exact Or.inr rfl) (pe_ix ix_list (pv 4) pe_int (fun _ _ => rfl)))
      (pss_cons (ps_if (pt_cmpR op_eq (pe_callB call_lenN (by rfl) T.n_len boot_len (pa_cons (pe_ix ix_listN (pv 0) (pv 1) (fun _ _ => rfl)) pa_nil)) pe_int (nomark _)) (pss_one (ps_ret (pv 1))) pss_nil)
      (pss_one (ps_set (i := 2) sc__law_end.nd rfl (by first | exact Or.inl rfl | exact Or.inr rfl) (pe_ix ix_listN (pe_ix ix_listN (pv 0) (pv 1) (fun _ _ => rfl)) (pe_op op_mod (pe_op op_add (pe_bm PySem.F.plainAttrs_list PySem.F.slot_list_index PySem.F.type_list_index (mt_indexD hr) (pe_ix ix_listN (pv 0) (pv 1) (fun _ _ => rfl)) (pa_cons (pv 2) pa_nil)) pe_int) pe_int) (fun _ _ => rfl)))))))))
      (pss_one (ps_ret (pe_un un_neg pe_int)))), ?_⟩
    refine ⟨_, rfl, _, _, rfl, .inl hv, _, _, rfl, rfl, .inl ⟨by decide, by decide⟩, _, _, rfl, rfl, _, rfl, by rw [List.length_map]; omega, by rw [List.length_map]; omega, ?_⟩
    rw [List.length_map, show (2 * (B.length : Int) + 2).toNat = 2 * B.length + 2 by omega]
    refine for_range (lo := 0) (n := 2 * B.length + 2) (fun i σ H2 => (∃ (p : Nat) (s : Pc) (u : V) (v3 v4 : Option V), σ = [some v, some (.int p), some u, v3, v4] ∧ Is H2 (pcD s) u ∧ endF B p0 s0 = lenF B (2 * B.length + 2 - i) p s) ∧ Same H H2) ⟨⟨p0, s0, sv, none, none, rfl, hs0, rfl⟩, Same.refl _⟩ ?_ ?_
    · rintro i σ H2 hi ⟨⟨p, s, u, v3, v4, rfl, hu, ee⟩, s2⟩
      obtain ⟨m, em⟩ : ∃ m, 2 * B.length + 2 - i = m + 1 := ⟨2 * B.length + 2 - i - 1, by omega⟩
      rw [em] at ee
      have en : 2 * B.length + 2 - (i + 1) = m := by omega
      rw [en]
      unfold lenF at ee
      have hv2 := hv.mono s2
      refine ⟨_, rfl, _, _, rfl, .inl hv2, _, rfl, by rw [List.length_map]; omega, by rw [List.length_map]; omega, fun acc na => ?_⟩
      rw [List.length_map, Int.toNat_natCast]
      refine comp_range (lo := 0) (n := B.length) (own := 1) (js := [0, 1, 2]) (fun i H3 => Same H2 H3 ∧ H3 acc = some (.lst ((((List.range i).filter (lnxP B p s)).map fun k : Nat => (k : Int)).map V.int))) ⟨Same.new na, upd_same⟩ ?_ ?_ mono_name ?_ ?_
      · rintro k H3 hk ⟨s3, hacc⟩
        rw [Int.zero_add]
        have hl : ((List.range k).filter (lnxP B p s)).length ≤ k := by
          have := List.length_filter_le (lnxP B p s) (List.range k)
          rw [List.length_range] at this
          exact this
        have no : lnxP B p s k = false → Same H2 H3 ∧ H3 acc = some (.lst ((((List.range (k + 1)).filter (lnxP B p s)).map fun k : Nat => (k : Int)).map V.int)) := fun e => by
          rw [nx_succ, e, if_neg (by decide), List.append_nil]
          exact ⟨s3, hacc⟩
        refine ⟨_, rfl, _, rfl, rfl, _, rfl, iteNE (fun hne => ?_) (fun he => ?_)⟩
        · have bq : Nat.beq k p = false := by
            cases e : Nat.beq k p with
            | false => rfl
            | true => exact absurd (by rw [Nat.eq_of_beq_eq_true e]) hne
          have el : lnxP B p s k = isS (B.getD k []) s := by
            unfold lnxP
            rw [bq]
          refine ⟨_, rfl, _, rfl, _, rfl, B.map sdD, (k : Int), _, hv2.mono s3, rfl, at_ar hk, fun au hau => ?_⟩
          obtain ⟨aa, avs, rfl, haa, hai⟩ := of_l hau
          refine ⟨aa, avs, 2, _, rfl, SqL.of haa, told_sd hai (hu.mono s3), _, rfl, ?_⟩
          have hb : ((List.range avs.length).any fun j => decide ((B.getD k []).getD j [] = s)) = lnxP B p s k := by
            rw [hai.length, List.length_map, any_isS, el]
          show if ((List.range avs.length).any fun j => decide ((B.getD k []).getD j [] = s)) = true then _ else _
          rw [hb]
          cases e : lnxP B p s k with
          | false => exact iteF (no e)
          | true =>
            refine iteT ⟨_, rfl, acc, _, _, rfl, rfl, hacc, small1000 (by rw [List.length_map, List.length_map]; omega), s3.put na, ?_⟩
            rw [upd_same, nx_succ, e, if_pos rfl, List.map_append, List.map_append]
            rfl
        · refine no ?_
          unfold lnxP
          have : k = p := by omega
          rw [this, Nat.beq_refl]
      · rintro H3 ⟨s3, hacc⟩
        refine ⟨_, rfl, Nat.zero_le _, fun l H4 nl s4 hl => ⟨1, _, eqR_ints (ms := []) (SqL.of (s4 _ _ hacc)) (SqL.of hl), by decide, _, rfl, ?_⟩⟩
        have hacc4 := s4 _ _ hacc
        have s24 := s3.trans s4
        have s04 := s2.trans s24
        have hv4 := hv2.mono s24
        have hu4 := hu.mono s24
        have mem : ∀ q ∈ lnxF B p s, q < B.length ∧ isS (B.getD q []) s = true := fun q hq => by
          obtain ⟨a, b⟩ := List.mem_filter.mp hq
          refine ⟨List.mem_range.mp a, ?_⟩
          unfold lnxP at b
          cases e : Nat.beq q p with
          | true => rw [e] at b; cases b
          | false => rw [e] at b; exact b
        change H4 acc = some (.lst (((lnxF B p s).map fun k : Nat => (k : Int)).map V.int)) at hacc4
        have hh : ((((List.range B.length).filter (lnxP B p s)).map fun k : Nat => (k : Int)) = []) ↔ lnxF B p s = [] := List.map_eq_nil_iff
        refine iteD (fun hz => ?_) (fun hz => ?_)
        · rw [hh.mp hz] at ee
          exact ⟨_, rfl, by rw [ee] at kk; exact kk H4 s04⟩
        · have hz := fun z => hz (hh.mpr z)
          clear hh
          generalize lnxF B p s = L at ee mem hacc4 hz
          obtain ⟨q, L, rfl⟩ : ∃ q r, L = q :: r := by
            cases L with
            | nil => exact absurd rfl hz
            | cons q r => exact ⟨q, r, rfl⟩
          obtain ⟨hq, hsq⟩ := mem q List.mem_cons_self
          have hsq := isS_iff.mp hsq
          refine ⟨_, rfl, acc, _, 0, .int q, rfl, rfl, SqL.of hacc4, ix_D (j := 0) rfl rfl, ?_⟩
          refine ⟨_, rfl, _, rfl, B.map sdD, (q : Int), _, hv4, rfl, at_ar hq, fun au hau => ⟨_, _, rfl, .inl hau, rfl, _, rfl, ?_⟩⟩
          rw [List.length_map]
          refine iteE (fun e3 => ?_) (fun e3 => ?_)
          · have e3 : (B.getD q []).length = 3 := by omega
            have ee : endF B p0 s0 = (q : Int) := by
              rw [ee]
              exact if_pos e3
            exact ⟨_, rfl, by rw [ee] at kk; exact kk H4 s04⟩
          · have e3 : (B.getD q []).length ≠ 3 := by omega
            have ee : endF B p0 s0 = lenF B m q ((B.getD q []).getD ((idxF (B.getD q []) s + 2) % 4) []) := by
              rw [ee]
              exact if_neg e3
            have gm : B.getD q [] ∈ B := by
              rw [List.getD_eq_getElem?_getD, List.getElem?_eq_getElem hq]
              exact List.getElem_mem hq
            have e4 : (B.getD q []).length = 4 := (hA _ gm).resolve_left e3
            have hat := at_ar hq
            generalize B.getD q [] = a at hsq e4 ee hat
            obtain ⟨i1, i2, i3⟩ := idx_at hsq
            refine ⟨_, rfl, _, rfl, B.map sdD, (q : Int), _, hv4, rfl, hat, fun au2 hau2 => ?_⟩
            refine ⟨_, rfl, _, rfl, B.map sdD, (q : Int), _, hv4, rfl, hat, fun au3 hau3 => ?_⟩
            obtain ⟨a3, avs, rfl, ha3, hai⟩ := of_l hau3
            have al : avs.length = a.length := by rw [hai.length, List.length_map]
            refine ⟨.inl ⟨rfl, _, SqL.of ha3⟩, _, rfl, a3, avs, u, 2, _, idxF a s, rfl, rfl, SqL.of ha3, by omega, told_sd hai hu4, by omega, decide_eq_true i2, fun m hm => decide_eq_false (i3 m hm), ?_⟩
            have em : ((idxF a s : Nat) : Int) + 2 = ((idxF a s + 2 : Nat) : Int) := rfl
            refine ⟨_, _, rfl, rfl, _, _, rfl, rfl, (show (0 : Int) < 4 by decide), a.map pcD, _, _, hau2, rfl, ?_, fun u' hu' => ⟨⟨q, _, u', _, _, rfl, hu', ee⟩, s04⟩⟩
            rw [em, show (((idxF a s + 2 : Nat) : Int) % 4) = (((idxF a s + 2) % 4 : Nat) : Int) by rw [Int.natCast_emod]; rfl]
            exact at_sd (by omega)
      · rintro σ H R R' k ⟨v1, e1, v2, e2, b1, v3, e3, h⟩
        refine ⟨v1, e1, v2, e2, b1, v3, e3, ?_⟩
        cases v3 with
        | false => exact k _ _ h
        | true =>
          obtain ⟨w1, f1, w2, f2, w3, f3, xs, i, d, g1, g2, g3, g⟩ := h
          exact ⟨w1, f1, w2, f2, w3, f3, xs, i, d, g1, g2, g3, fun u hu => by
            obtain ⟨p, ys, n, es, a1, a2, a3, b, a4, a5⟩ := g u hu
            exact ⟨p, ys, n, es, a1, a2, a3, b, a4, k _ _ a5⟩⟩
      · rintro σ H R R' k ⟨v1, e1, h⟩
        exact ⟨v1, e1, k _ _ h⟩
    · rintro σ H2 ⟨⟨p, s, u, v3, v4, rfl, hu, ee⟩, s2⟩
      rw [Nat.sub_self] at ee
      exact ⟨_, rfl, by rw [ee] at kk; exact kk H2 s2⟩
theorem cut_ar {cs : List Pc} (h : Cut cs) : ArOk (cs.map lsdF) := by
  refine ⟨by rw [List.length_map]; exact h.2.1, fun a ha => ?_⟩
  obtain ⟨c, hc, rfl⟩ := List.mem_map.mp ha
  unfold lsdF
  rw [List.length_map, List.length_range]
  exact (h.1 c hc).2
theorem at_cut {cs : List Pc} {k : Nat} (h : k < cs.length) : atI (cs.map pcD) (k : Int) = some (pcD (cs.getD k [])) := at_sd h
theorem ts_prs {H H' : Hp} (t : TupS H H') : ∀ {ps : List (Nat × Nat)} {vs : List V}, Iss H (ps.map prI) vs → Iss H' (ps.map prI) vs
  | [], _, h => by rw [of_nil h]; exact iss_nil
  | p :: ps, _, h => by
    obtain ⟨u, us, rfl, h1, h2⟩ := of_cons h
    refine iss_cons ?_ (ts_prs t h2)
    obtain ⟨a, vs, rfl, ha, hi⟩ := of_t h1
    obtain ⟨u1, us, rfl, k1, hi⟩ := of_cons hi
    obtain ⟨u2, us, rfl, k2, hi⟩ := of_cons hi
    rw [of_nil hi] at ha
    rw [of_i k1, of_i k2] at ha
    exact is_t (t _ _ ha) (iss_cons is_i (iss_cons is_i iss_nil))
theorem ljo_len {B : List (List Pc)} {cs : List Pc} (hA : ∀ a ∈ B, a.length = 3 ∨ a.length = 4) : ∀ {n : Nat}, n ≤ B.length → ((List.range n).flatMap (ljo1 B cs)).length ≤ 4 * n
  | 0, _ => Nat.le_refl _
  | n + 1, h => by
    rw [List.range_succ, List.flatMap_append, List.length_append]
    have i1 := ljo_len (cs := cs) hA (Nat.le_of_succ_le h)
    have i2 : ([n].flatMap (ljo1 B cs)).length ≤ 4 := by
      rw [List.flatMap_cons, List.flatMap_nil, List.append_nil]
      unfold ljo1
      split
      · have gm : B.getD n [] ∈ B := by
          rw [List.getD_eq_getElem?_getD, List.getElem?_eq_getElem (by omega)]
          exact List.getElem_mem _
        have g4 := hA _ gm
        have go : ∀ a : List Pc, (a.flatMap (lpr1 B n)).length ≤ a.length := fun a => by
          induction a with
          | nil => exact Nat.le_refl _
          | cons x a ih =>
            rw [List.flatMap_cons, List.length_append, List.length_cons]
            have : (lpr1 B n x).length ≤ 1 := by
              unfold lpr1
              split
              · exact Nat.le_refl _
              · exact Nat.zero_le _
            omega
        have := go (B.getD n [])
        omega
      · exact Nat.zero_le _
    omega
theorem ok__law_joined : FnOk P w K mg base CX0 3 T.f__law_joined T.d__law_joined ["_law_pieces"] (spLjo K) := by
  refine T.F__law_joined.ok sc__law_joined (fun vs H Q E h => ?_) (fun cdv A outer s H vs Q E hr h => ?_)
  · obtain ⟨_, _, rfl, _⟩ := h
    rfl
  · obtain ⟨v, cs, rfl, hv, hC, kk⟩ := h
    refine ⟨_, (pss_cons (ps_setcB (i := 1) sc__law_joined.nd rfl (by first | exact Or.inl rfl | exact Or.inr rfl) (.inl rfl) (XN := ["_law_pieces", "_law_around", "_law_pairs", "_law_place", "_law_side", "_law_end_here"]) (sc := defScope s__law_joined) (N := ["_law_piece"]) (own := 1) (js := []) rfl (by decide +kernel) rfl rfl (pi_list (pv 0)) (fun _ _ _ _ => (pg_name (i := 0) (show List.Nodup (["_law_piece"] : List Str) by decide +kernel) rfl (Or.inl rfl) (.inr rfl))) (ownG_name (by decide)) (fun _ _ _ _ => pifs_nil) (fun _ _ _ _ => (pe_call (ok__law_sides T) (hr.mono (by decide)) (by rfl) T.m__law_sides T.F__law_sides.kp T.B__law_sides .nil pass0 (pa_cons (pv 0) pa_nil))))
      (pss_cons (ps_set (i := 2) sc__law_joined.nd rfl (by first | exact Or.inl rfl | exact Or.inr rfl) (pe_lstN pa_nil))
      (pss_cons (ps_for PassesOwn.never rfl (pi_range1 (by rfl) T.n_range (pa_cons (pe_callB call_lenN (by rfl) T.n_len boot_len (pa_cons (pv 0) pa_nil)) pa_nil)) (pg_name (i := 3) sc__law_joined.nd rfl (by first | exact Or.inl rfl | exact Or.inr rfl)) (pss_one (ps_if (pt_cmpR op_eq (pe_callB call_lenN (by rfl) T.n_len boot_len (pa_cons (pe_ix ix_listN (pv 0) (pv 3) (fun _ _ => rfl)) pa_nil)) pe_int (nomark _)) (pss_one (ps_for PassesOwn.never rfl (pi_list (pe_ix ix_list (pv 1) (pv 3) (fun _ _ => rfl))) (pg_name (i := 4) sc__law_joined.nd rfl (by first | exact Or.inl rfl | exact Or.inr rfl)) (pss_cons (ps_set (i := 5) sc__law_joined.nd rfl (by first | exact Or.inl rfl | exact Or.inr rfl) (pe_call (ok__law_end T) (hr.mono (by decide)) (by rfl) T.m__law_end T.F__law_end.kp T.B__law_end .nil pass0 (pa_cons (pv 1) (pa_cons (pv 3) (pa_cons (pv 4) pa_nil)))))
      (pss_one (ps_if (pt_cmpR op_gt (pv 5) (pv 3) (nomark _)) (pss_one (ps_expr (pe_bm PySem.F.plainAttrs_list PySem.F.slot_list_append PySem.F.type_list_append mt_append (pv 2) (pa_cons (pe_tupN (pa_cons (pv 3) (pa_cons (pv 5) pa_nil))) pa_nil)))) pss_nil))))) pss_nil)))
      (pss_one (ps_ret (pv 2)))))), ?_⟩
    obtain ⟨ca, cvs, rfl, hca, hci⟩ := of_l hv
    have clen : cvs.length = cs.length := by rw [hci.length, List.length_map]
    have hL := hC.2.1
    refine ⟨_, rfl, ca, rfl, ⟨_, SqL.of hca⟩, fun acc na => ?_⟩
    refine comp_list (xs := cvs) (own := 1) (js := []) (fun i H3 => Same H H3 ∧ Acc H H3 acc (((cs.take i).map lsdF).map sdD)) ⟨Same.new na, Acc.start upd_same⟩ (fun i H3 _ h => SqL.of (h.1 _ _ hca)) ?_ ?_ mono_name mono_yes ?_
    · rintro i x H2 hi ⟨s2, vs, hacc, hz⟩
      obtain ⟨dd, hdd, hy⟩ := hci.of_get hi
      rw [List.getElem?_map] at hdd
      obtain ⟨c, hc, rfl⟩ := Option.map_eq_some_iff.mp hdd
      have il : i < cs.length := (List.getElem?_eq_some_iff.mp hc).1
      refine ⟨_, rfl, x, c, rfl, hy.mono s2, hC.1 c (List.mem_of_getElem? hc), fun l H3 s3 nl hl => ?_⟩
      have vl : vs.length ≤ 100 := by rw [hz.length, List.length_map, List.length_map, List.length_take]; omega
      refine ⟨acc, vs, _, rfl, rfl, s3 _ _ hacc, small1000 (by omega), (s2.trans s3).put na, ?_⟩
      rw [List.take_add_one, hc, List.map_append, List.map_append]
      exact Acc.add s2 s3 hacc hz (nw_cut s3 nl hl)
    · rintro H3 ⟨s3, hg⟩
      rw [clen, List.take_length] at hg
      have hA := cut_ar hC
      have hAr : Is H3 (arD (cs.map lsdF)) (.ref acc) := (hg.is na).mono nw_same
      have eA : (cs.map lsdF).length = cs.length := List.length_map ..
      unfold ljoF at kk
      generalize cs.map lsdF = B at hA hAr eA kk
      obtain ⟨_, bvs, e, hacc, hbi⟩ := of_l hAr
      cases e
      refine ⟨Nat.zero_le _, fun pa H4 npa s4 hpa => ?_⟩
      have npaH : H pa = none := s3.free npa
      refine ⟨_, rfl, _, _, rfl, .inl (hv.mono (s3.trans s4)), _, rfl, by rw [List.length_map]; omega, by rw [List.length_map]; omega, ?_⟩
      rw [List.length_map, Int.toNat_natCast]
      refine for_range (lo := 0) (n := cs.length) (fun i σ H5 => (∃ v3 v4 v5, σ = [some (.ref ca), some (.ref acc), some (.ref pa), v3, v4, v5]) ∧ Same H3 H5 ∧ ∃ pvs, H5 pa = some (.lst pvs) ∧ Iss H5 (((List.range i).flatMap (ljo1 B cs)).map prI) pvs) ⟨⟨none, none, none, rfl⟩, s4, [], hpa, iss_nil⟩ ?_ ?_
      · rintro i σ H5 hi ⟨⟨v3, v4, v5, rfl⟩, s5, pvs, hpa5, hp5⟩
        rw [Int.zero_add]
        have s05 := s3.trans s5
        refine ⟨_, rfl, _, rfl, cs.map pcD, (i : Int), _, hv.mono s05, rfl, at_cut hi, fun cu hcu => ⟨_, _, rfl, .inr hcu, rfl, _, rfl, ?_⟩⟩
        rw [List.length_map]
        have nx : (List.range (i + 1)).flatMap (ljo1 B cs) = (List.range i).flatMap (ljo1 B cs) ++ ljo1 B cs i := by
          rw [List.range_succ, List.flatMap_append]
          simp
        have lp : ∀ n, n ≤ cs.length → ((List.range n).flatMap (ljo1 B cs)).length ≤ 4 * n := fun n hn => ljo_len hA.2 (by omega)
        have lp := lp i (by omega)
        have pl : pvs.length ≤ 4 * i := by rw [hp5.length, List.length_map]; exact lp
        rw [nx]
        generalize (List.range i).flatMap (ljo1 B cs) = R at hp5
        refine iteE (fun e3 => ?_) (fun e3 => ?_)
        · have e3 : (cs.getD i []).length = 3 := by omega
          unfold ljo1
          rw [if_pos e3]
          obtain ⟨au, hau, hai3⟩ := hbi.atI (at_ar (by omega : i < B.length))
          have a4 : (B.getD i []).length ≤ 4 := by
            have gm : B.getD i [] ∈ B := by
              rw [List.getD_eq_getElem?_getD, List.getElem?_eq_getElem (by omega)]
              exact List.getElem_mem _
            have := hA.2 _ gm
            omega
          generalize B.getD i [] = a at hai3 a4
          obtain ⟨aa, avs, rfl, haa, hav⟩ := of_l hai3
          have alen : avs.length = a.length := by rw [hav.length, List.length_map]
          refine ⟨_, rfl, _, rfl, acc, bvs, (i : Int), _, rfl, rfl, SqL.of (s5 _ _ hacc), hau, aa, rfl, ⟨_, SqL.of (s5 _ _ haa)⟩, for_list (xs := avs) (fun j σ H6 => (∃ v4 v5, σ = [some (.ref ca), some (.ref acc), some (.ref pa), some (.int i), v4, v5]) ∧ Same H3 H6 ∧ ∃ pvs, H6 pa = some (.lst pvs) ∧ pvs.length ≤ 4 * i + j ∧ Iss H6 ((R ++ (a.take j).flatMap (lpr1 B i)).map prI) pvs) ⟨⟨_, _, rfl⟩, s5, pvs, hpa5, by omega, by simpa using hp5⟩ (fun j σ H6 _ h => SqL.of (h.2.1 _ _ haa)) ?_ ?_⟩
          · rintro j y σ H6 hj ⟨⟨v4, v5, rfl⟩, s6, pvs, hpa6, pl6, hp6⟩
            obtain ⟨dd, hdd, hy⟩ := hav.of_get hj
            rw [List.getElem?_map] at hdd
            obtain ⟨sd, hsd, rfl⟩ := Option.map_eq_some_iff.mp hdd
            have jl : j < a.length := (List.getElem?_eq_some_iff.mp hsd).1
            refine ⟨_, rfl, _, rfl, _, rfl, .ref acc, y, B, i, sd, rfl, hAr.mono s6, hy.mono s6, hA, fun H7 s7 => ?_⟩
            have s37 := s6.trans s7
            have nx : (a.take (j + 1)).flatMap (lpr1 B i) = (a.take j).flatMap (lpr1 B i) ++ lpr1 B i sd := by
              rw [List.take_add_one, hsd, List.flatMap_append]
              simp
            rw [nx, ← List.append_assoc]
            generalize R ++ (a.take j).flatMap (lpr1 B i) = R2 at hp6
            refine ⟨_, rfl, _, rfl, _, _, rfl, rfl, _, rfl, iteD (fun hg => ?_) (fun hg => ?_)⟩
            · unfold lpr1
              rw [if_pos hg]
              refine ⟨_, rfl, .inl ⟨rfl, _, SqL.of (s7 _ _ hpa6)⟩, _, rfl, _, rfl, (by show 2 ≤ sizeLine; decide), fun t H8 nt s8 ht => ?_⟩
              have hpa8 := s8 _ _ (s7 _ _ hpa6)
              refine ⟨pa, pvs, _, rfl, rfl, hpa8, small1000 (by omega), ⟨_, _, rfl⟩, (s37.trans s8).put npa, _, upd_same, by rw [List.length_append]; show _ + 1 ≤ _; omega, ?_⟩
              have tu : TupS H8 (upd H8 pa (.lst (pvs ++ [.ref t]))) := TupS.upd hpa8
              rw [List.map_append]
              refine (ts_prs tu ((hp6.mono s7).mono s8)).append (ts_prs tu (iss_cons ?_ iss_nil))
              refine is_t ht (iss_cons is_i (iss_cons ?_ iss_nil))
              rw [Int.toNat_of_nonneg (by omega)]
              exact is_i
            · unfold lpr1
              rw [if_neg hg, List.append_nil]
              exact ⟨⟨_, _, rfl⟩, s37, pvs, s7 _ _ hpa6, by omega, hp6.mono s7⟩
          · rintro σ H6 ⟨⟨v4, v5, rfl⟩, s6, pvs, hpa6, pl6, hp6⟩
            rw [alen, List.take_length] at hp6
            exact ⟨⟨_, _, _, rfl⟩, s6, pvs, hpa6, hp6⟩
        · have e3 : ¬ (cs.getD i []).length = 3 := by omega
          unfold ljo1
          rw [if_neg e3, List.append_nil]
          exact ⟨⟨_, _, _, rfl⟩, s5, pvs, hpa5, hp5⟩
      · rintro σ H5 ⟨⟨v3, v4, v5, rfl⟩, s5, pvs, hpa5, hp5⟩
        exact ⟨_, rfl, kk pa H5 (s3.trans s5) npaH (is_l hpa5 hp5)⟩
    · rintro σ H R R' k ⟨v1, e1, v, c, e2, hv, hc, h⟩
      exact ⟨v1, e1, v, c, e2, hv, hc, fun l H' s n i => k _ _ (h l H' s n i)⟩
theorem hdF_len (n : Nat) : ∀ (ps : List (Nat × Nat)) (h : List Nat), h.length = n → (∀ x ∈ h, x < n) → (ps.foldl hd1 h).length = n ∧ ∀ x ∈ ps.foldl hd1 h, x < n
  | [], h, e, k => ⟨e, k⟩
  | p :: ps, h, e, k => by
    refine hdF_len n ps (hd1 h p) (by unfold hd1; rw [List.length_map]; exact e) fun x hx => ?_
    unfold hd1 at hx
    obtain ⟨y, hy, rfl⟩ := List.mem_map.mp hx
    unfold hdR
    split
    · rw [List.getD_eq_getElem?_getD]
      cases q : h[p.1]? with
      | none => exact Nat.lt_of_le_of_lt (Nat.zero_le _) (k y hy)
      | some z => exact k z (List.mem_of_getElem? q)
    · exact k y hy
theorem in_ints {x : Int} {S : List Int} : inV (.int x) (S.map V.int) = decide (x ∈ S) := by
  unfold inV
  rw [List.any_map, Bool.eq_iff_iff, List.any_eq_true, decide_eq_true_eq]
  constructor
  · rintro ⟨y, hy, e⟩
    have : y = x := by simpa [eqV] using e
    exact this ▸ hy
  · intro h
    exact ⟨x, h, by simp [eqV]⟩
theorem flat_ints (S : List Int) : (S.map V.int).all flatV = true := by
  rw [List.all_map, List.all_eq_true]
  intro x _
  rfl
theorem nin_yes {x : Int} {S : List Int} (h : x ∉ S) : V.bl (!inV (.int x) (S.map V.int)) = V.bl true := by rw [in_ints, decide_eq_false h]; rfl
theorem nin_no {x : Int} {S : List Int} (h : x ∈ S) : V.bl (!inV (.int x) (S.map V.int)) = V.bl false := by rw [in_ints, decide_eq_true h]; rfl
def vN (h : List Nat) : List V := (h.map fun k : Nat => (k : Int)).map V.int
theorem vN_at {h : List Nat} {j : Nat} (hj : j < h.length) : atI (vN h) (j : Int) = some (.int (h.getD j 0 : Nat)) := by
  refine ix_D (j := j) rfl ?_
  unfold vN
  rw [List.getElem?_map, List.getElem?_map, List.getElem?_eq_getElem hj, List.getD_eq_getElem?_getD, List.getElem?_eq_getElem hj]
  rfl
theorem ok__law_parts : FnOk P w K mg base CX0 1 T.f__law_parts T.d__law_parts ["_law_pieces", "_law_pairs"] (spLpa K) := by
  refine T.F__law_parts.ok sc__law_parts (fun vs H Q E h => ?_) (fun cdv A outer s H vs Q E hr h => ?_)
  · obtain ⟨_, _, _, _, rfl, _⟩ := h
    rfl
  · obtain ⟨v1, v2, cs, ps, rfl, hv1, hv2, hC, hP, kk⟩ := h
    refine ⟨_, (pss_cons (ps_set (i := 2) sc__law_parts.nd rfl (by first | exact Or.inl rfl | exact Or.inr rfl) (pe_listrng1 rfl (by rfl) T.n_list (by rfl) T.n_range (pa_cons (pe_callB call_lenN (by rfl) T.n_len boot_len (pa_cons (pv 0) pa_nil)) pa_nil)))
      (pss_cons (ps_for PassesOwn.never rfl (pi_list (pv 1)) (pg_tup rfl (pgs_cons (pg_name (i := 3) sc__law_parts.nd rfl (by first | exact Or.inl rfl | exact Or.inr rfl)) (pgs_cons (pg_name (i := 4) sc__law_parts.nd rfl (by first | exact Or.inl rfl | exact Or.inr rfl)) pgs_nil))) (pss_cons (ps_par (i := 5) (j := 6) rfl sc__law_parts.nd rfl rfl (by decide) rfl rfl (pa_cons (pe_ix ix_list (pv 2) (pv 4) (fun _ _ => rfl)) (pa_cons (pe_ix ix_list (pv 2) (pv 3) (fun _ _ => rfl)) pa_nil)) rfl)
      (pss_one (ps_for PassesOwn.never rfl (pi_range1 (by rfl) T.n_range (pa_cons (pe_callB call_lenN (by rfl) T.n_len boot_len (pa_cons (pv 0) pa_nil)) pa_nil)) (pg_name (i := 8) sc__law_parts.nd rfl (by first | exact Or.inl rfl | exact Or.inr rfl)) (pss_one (ps_if (pt_cmpR op_eq (pe_ix ix_list (pv 2) (pv 8) (fun _ _ => rfl)) (pv 5) (nomark _)) (pss_one (ps_asg (pv 6) (pg_sub (pv 2) (pv 8) set_list))) pss_nil))))))
      (pss_cons (ps_set (i := 7) sc__law_parts.nd rfl (by first | exact Or.inl rfl | exact Or.inr rfl) (pe_lstN pa_nil))
      (pss_cons (ps_for PassesOwn.never rfl (pi_range1 (by rfl) T.n_range (pa_cons (pe_callB call_lenN (by rfl) T.n_len boot_len (pa_cons (pv 0) pa_nil)) pa_nil)) (pg_name (i := 8) sc__law_parts.nd rfl (by first | exact Or.inl rfl | exact Or.inr rfl)) (pss_one (ps_if (pw_and (pt_cmpR op_eq (pe_callB call_lenN (by rfl) T.n_len boot_len (pa_cons (pe_ix ix_listN (pv 0) (pv 8) (fun _ _ => rfl)) pa_nil)) pe_int (nomark _)) (pw_and1 (pt_cmpR op_notIn_seq (pe_ix ix_list (pv 2) (pv 8) (fun _ _ => rfl)) (pv 7) rfl))).pt (pss_one (ps_expr (pe_bm PySem.F.plainAttrs_list PySem.F.slot_list_append PySem.F.type_list_append mt_append (pv 7) (pa_cons (pe_ix ix_list (pv 2) (pv 8) (fun _ _ => rfl)) pa_nil)))) pss_nil)))
      (pss_one (ps_ret (pe_callB call_len_seq (by rfl) T.n_len boot_len (pa_cons (pv 7) pa_nil)))))))), ?_⟩
    have hL := hC.2.1
    refine ⟨_, rfl, _, _, rfl, .inl hv1, _, rfl, by rw [List.length_map]; omega, by rw [List.length_map]; omega, fun hd nhd => ?_⟩
    obtain ⟨qa, qvs, rfl, hqa, hqi⟩ := of_l hv2
    have qlen : qvs.length = ps.length := by rw [hqi.length, List.length_map]
    have s1 : Same H (upd H hd (.lst (rngL 0 ((((cs.map pcD).length : Nat) : Int)).toNat))) := Same.new nhd
    have h1 : upd H hd (.lst (rngL 0 ((((cs.map pcD).length : Nat) : Int)).toNat)) hd = some (.lst (vN (List.range cs.length))) := by
      rw [upd_same, List.length_map, Int.toNat_natCast]
      unfold rngL vN
      rw [List.map_map]
      congr 2
      refine List.map_congr_left fun k _ => ?_
      show V.int (0 + (k : Int)) = V.int (k : Int)
      rw [Int.zero_add]
    generalize upd H hd (.lst (rngL 0 ((((cs.map pcD).length : Nat) : Int)).toNat)) = H1 at s1 h1
    have ho : ∀ qs : List (Nat × Nat), (qs.foldl hd1 (List.range cs.length)).length = cs.length ∧ ∀ x ∈ qs.foldl hd1 (List.range cs.length), x < cs.length := fun qs => hdF_len cs.length qs _ List.length_range fun x hx => List.mem_range.mp hx
    refine ⟨_, rfl, qa, rfl, ⟨_, SqL.of (s1 _ _ hqa)⟩, for_list (xs := qvs) (fun i σ H2 => (∃ v3 v4 v5 v6 v8, σ = [some v1, some (.ref qa), some (.ref hd), v3, v4, v5, v6, none, v8]) ∧ Same H H2 ∧ H2 hd = some (.lst (vN ((ps.take i).foldl hd1 (List.range cs.length))))) ⟨⟨none, none, none, none, none, rfl⟩, s1, h1⟩ (fun i σ H2 _ h => SqL.of (h.2.1 _ _ hqa)) ?_ ?_⟩
    · rintro i y σ H2 hi ⟨⟨v3, v4, v5, v6, v8, rfl⟩, s2, h2⟩
      obtain ⟨dd, hdd, hy⟩ := hqi.of_get hi
      rw [List.getElem?_map] at hdd
      obtain ⟨x, hx, rfl⟩ := Option.map_eq_some_iff.mp hdd
      obtain ⟨in1, in2⟩ := hP x (List.mem_of_getElem? hx)
      obtain ⟨pa, pvs, rfl, hpa, hpi⟩ := of_t (hy.mono s2)
      obtain ⟨u1, us, rfl, hu1, hpi⟩ := of_cons hpi
      obtain ⟨u2, us, rfl, hu2, hpi⟩ := of_cons hpi
      rw [of_nil hpi, of_i hu1, of_i hu2] at hpa
      have nx : (ps.take (i + 1)).foldl hd1 (List.range cs.length) = hd1 ((ps.take i).foldl hd1 (List.range cs.length)) x := by
        rw [List.take_add_one, hx, List.foldl_append]
        rfl
      obtain ⟨hl, hb⟩ := ho (ps.take i)
      rw [nx]
      generalize (ps.take i).foldl hd1 (List.range cs.length) = g at h2 hl hb
      refine ⟨pa, _, rfl, SqT.of hpa, rfl, _, _, rfl, _, _, rfl, rfl, ?_⟩
      refine ⟨_, rfl, _, rfl, hd, _, _, _, rfl, rfl, SqL.of h2, vN_at (by omega), _, rfl, _, rfl, hd, _, _, _, rfl, rfl, SqL.of h2, vN_at (by omega), _, _, rfl, ?_⟩
      refine ⟨_, rfl, _, _, rfl, .inl (hv1.mono s2), _, rfl, by rw [List.length_map]; omega, by rw [List.length_map]; omega, ?_⟩
      rw [List.length_map, Int.toNat_natCast]
      unfold hd1
      generalize g.getD x.2 0 = o
      generalize g.getD x.1 0 = n
      refine for_range (lo := 0) (n := cs.length) (fun j σ H3 => (∃ v3 v4 v8, σ = [some v1, some (.ref qa), some (.ref hd), v3, v4, some (.int o), some (.int n), none, v8]) ∧ Same H H3 ∧ H3 hd = some (.lst (vN ((g.take j).map (hdR o n) ++ g.drop j)))) ⟨⟨_, _, _, rfl⟩, s2, h2⟩ ?_ ?_
      · rintro j σ H3 hj ⟨⟨v3, v4, v8, rfl⟩, s3, h3⟩
        rw [Int.zero_add]
        obtain ⟨z, hz⟩ : ∃ z, g[j]? = some z := ⟨_, List.getElem?_eq_getElem (by omega)⟩
        have ln : ((g.take j).map (hdR o n) ++ g.drop j).length = cs.length := by
          rw [List.length_append, List.length_map, List.length_take, List.length_drop]
          omega
        have dz : g.drop j = z :: g.drop (j + 1) := drop_next hz
        have lt : ((g.take j).map (hdR o n)).length = j := by rw [List.length_map, List.length_take]; omega
        have ez : ((g.take j).map (hdR o n) ++ g.drop j).getD j 0 = z := by
          rw [List.getD_eq_getElem?_getD, List.getElem?_append_right (by omega), lt, Nat.sub_self, dz]
          rfl
        have en : (g.take (j + 1)).map (hdR o n) ++ g.drop (j + 1) = (g.take j).map (hdR o n) ++ hdR o n z :: g.drop (j + 1) := by
          rw [List.take_add_one, hz, List.map_append, List.append_assoc]
          rfl
        rw [en]
        have at_ := vN_at (h := (g.take j).map (hdR o n) ++ g.drop j) (j := j) (by omega)
        rw [ez] at at_
        refine ⟨_, rfl, _, rfl, hd, _, _, _, rfl, rfl, SqL.of h3, at_, _, rfl, rfl, _, rfl, iteE (fun e => ?_) (fun e => ?_)⟩
        · have e : z = o := by omega
          have er : hdR o n z = n := by
            unfold hdR
            rw [e, Nat.beq_refl]
          refine ⟨_, rfl, _, rfl, _, rfl, hd, _, _, j, rfl, rfl, h3, ixN_nat (by unfold vN; rw [List.length_map, List.length_map]; omega), ⟨_, _, _, rfl⟩, s3.put nhd, ?_⟩
          rw [upd_same, er, dz]
          unfold vN
          rw [← List.map_set, ← List.map_set, List.set_append_right _ _ (by omega), lt, Nat.sub_self]
          rfl
        · have e : z ≠ o := by omega
          have er : hdR o n z = z := by
            unfold hdR
            cases q : Nat.beq z o with
            | true => exact absurd (Nat.eq_of_beq_eq_true q) e
            | false => rfl
          rw [er, ← dz]
          exact ⟨⟨_, _, _, rfl⟩, s3, h3⟩
      · rintro σ H3 ⟨⟨v3, v4, v8, rfl⟩, s3, h3⟩
        rw [← hl, List.take_length, List.drop_length, List.append_nil] at h3
        exact ⟨⟨_, _, _, _, _, rfl⟩, s3, h3⟩
    · rintro σ H2 ⟨⟨v3, v4, v5, v6, v8, rfl⟩, s2, h2⟩
      rw [qlen, List.take_length] at h2
      change H2 hd = some (.lst (vN (hdF cs.length ps))) at h2
      obtain ⟨hl, _⟩ := ho ps
      change (hdF cs.length ps).length = _ at hl
      unfold lpaF at kk
      generalize hdF cs.length ps = g at h2 hl kk
      refine ⟨Nat.zero_le _, fun fo H3 nfo s3 hfo => ?_⟩
      have s03 := s2.trans s3
      have nfoH : H fo = none := s2.free nfo
      have fh : hd ≠ fo := by rintro rfl; rw [h2] at nfo; cases nfo
      refine ⟨_, rfl, _, _, rfl, .inl (hv1.mono s03), _, rfl, by rw [List.length_map]; omega, by rw [List.length_map]; omega, ?_⟩
      rw [List.length_map, Int.toNat_natCast]
      refine for_range (lo := 0) (n := cs.length) (fun j σ H4 => (∃ v3 v4 v5 v6 v8, σ = [some v1, some (.ref qa), some (.ref hd), v3, v4, v5, v6, some (.ref fo), v8]) ∧ Same H H4 ∧ H4 hd = some (.lst (vN g)) ∧ H4 fo = some (.lst (vN (fndF cs g j))) ∧ (fndF cs g j).length ≤ j) ⟨⟨_, _, _, _, _, rfl⟩, s03, s3 _ _ h2, hfo, Nat.le_refl _⟩ ?_ ?_
      · rintro j σ H4 hj ⟨⟨v3, v4, v5, v6, v8, rfl⟩, s4, h4, hf4, fl⟩
        rw [Int.zero_add]
        have nx : fndF cs g (j + 1) = fnd1 cs g (fndF cs g j) j := by
          unfold fndF
          rw [List.range_succ, List.foldl_append]
          rfl
        rw [nx]
        generalize fndF cs g j = F at hf4 fl
        refine ⟨_, rfl, _, rfl, cs.map pcD, (j : Int), _, hv1.mono s4, rfl, at_cut hj, fun cu hcu => ⟨_, _, rfl, .inr hcu, rfl, _, rfl, ?_⟩⟩
        rw [List.length_map]
        refine iteE (fun e3 => ?_) (fun e3 => ?_)
        · have e3 : (cs.getD j []).length = 3 := by omega
          by_cases hin : g.getD j 0 ∈ F
          · refine ⟨_, rfl, _, rfl, hd, _, _, _, rfl, rfl, SqL.of h4, vN_at (by omega), _, rfl, fo, _, rfl, .inl (SqL.of hf4), rfl, flat_ints _, false, nin_no (List.mem_map.mpr ⟨_, hin, rfl⟩), iteF ?_⟩
            unfold fnd1
            rw [if_neg fun z => z.2 hin]
            exact ⟨⟨_, _, _, _, _, rfl⟩, s4, h4, hf4, by omega⟩
          · refine ⟨_, rfl, _, rfl, hd, _, _, _, rfl, rfl, SqL.of h4, vN_at (by omega), _, rfl, fo, _, rfl, .inl (SqL.of hf4), rfl, flat_ints _, true, nin_yes (fun z => ?_), iteT ?_⟩
            · obtain ⟨y, hy, e⟩ := List.mem_map.mp z
              have : y = g.getD j 0 := by omega
              exact hin (this ▸ hy)
            unfold fnd1
            rw [if_pos ⟨e3, hin⟩]
            refine ⟨_, rfl, .inl ⟨rfl, _, SqL.of hf4⟩, _, rfl, _, rfl, hd, _, _, _, rfl, rfl, SqL.of h4, vN_at (by omega), fo, _, _, rfl, rfl, hf4, small1000 (by unfold vN; rw [List.length_map, List.length_map]; omega), ⟨_, _, _, _, _, rfl⟩, s4.put nfoH, by rw [upd_ne fh]; exact h4, ?_, by rw [List.length_append]; show _ + 1 ≤ _; omega⟩
            rw [upd_same]
            unfold vN
            rw [List.map_append, List.map_append]
            rfl
        · unfold fnd1
          rw [if_neg fun z => e3 (by omega)]
          exact ⟨⟨_, _, _, _, _, rfl⟩, s4, h4, hf4, by omega⟩
      · rintro σ H4 ⟨⟨v3, v4, v5, v6, v8, rfl⟩, s4, h4, hf4, fl⟩
        refine ⟨_, rfl, fo, _, rfl, .inl (SqL.of hf4), ?_⟩
        unfold vN
        rw [List.length_map, List.length_map]
        exact kk H4 s4
theorem lenF_lt {B : List (List Pc)} : ∀ {n p : Nat} {s : Pc}, lenF B n p s < B.length
  | 0, p, s => by unfold lenF; omega
  | n + 1, p, s => by
    unfold lenF
    split
    · omega
    · next q r e =>
      have hq : q ∈ lnxF B p s := by rw [e]; exact List.mem_cons_self
      have := List.mem_range.mp (List.mem_filter.mp hq).1
      split
      · omega
      · exact lenF_lt
theorem ljo_in {cs : List Pc} : ∀ x ∈ ljoF cs, x.1 < cs.length ∧ x.2 < cs.length := fun x hx => by
  unfold ljoF at hx
  obtain ⟨p, hp, hx⟩ := List.mem_flatMap.mp hx
  have hp := List.mem_range.mp hp
  unfold ljo1 at hx
  split at hx
  · obtain ⟨s, _, hx⟩ := List.mem_flatMap.mp hx
    unfold lpr1 at hx
    split at hx
    · rw [List.mem_singleton.mp hx]
      have h : endF (cs.map lsdF) p s < ((cs.map lsdF).length : Nat) := lenF_lt
      rw [List.length_map] at h
      exact ⟨hp, by show (endF (cs.map lsdF) p s).toNat < cs.length; omega⟩
    · cases hx
  · cases hx
theorem ok_points : FnOk P w K mg base (CX1 P w) 4 T.f_points T.d_points ["d"] (spPts T.c_NoBound) := by
  refine T.F_points.okx sc_points (fun vs H Q E h => ?_) (fun cdv A outer s H vs Q E hr h hR hp => ?_)
  · obtain ⟨_, rfl, _⟩ := h
    rfl
  · obtain ⟨v, rfl, ht, kk, ke⟩ := h
    refine ⟨_, (pss_cons (ps_expr (pe_call (ok_need_degree T) (hr.mono (by decide)) (by rfl) T.m_need_degree T.F_need_degree.kp T.B_need_degree .nil hp (pa_cons (pv 0) pa_nil)))
      (pss_cons (ps_set (i := 1) sc_points.nd rfl (by first | exact Or.inl rfl | exact Or.inr rfl) (pe_lstN pa_nil))
      (pss_cons (PS.quiet (ps_for PassesOwn.never rfl (pi_range1 (by rfl) T.n_range (pa_cons (pe_op op_add (pv 0) pe_int) pa_nil)) (pg_name (i := 2) sc_points.nd rfl (by first | exact Or.inl rfl | exact Or.inr rfl)) (pss_one (ps_for PassesOwn.never rfl (pi_down (by rfl) T.n_range (pa_cons (pe_op op_sub (pv 0) (pv 2)) (pa_cons (pe_un un_neg pe_int) (pa_cons (pe_un un_neg pe_int) pa_nil)))) (pg_name (i := 3) sc_points.nd rfl (by first | exact Or.inl rfl | exact Or.inr rfl)) (pss_one (ps_expr (pe_bm PySem.F.plainAttrs_list PySem.F.slot_list_append PySem.F.type_list_append mt_append (pv 1) (pa_cons (pe_tupN (pa_cons (pv 2) (pa_cons (pv 3) pa_nil))) pa_nil))))))))
      (pss_one (ps_ret (pv 1)))))), ?_⟩
    refine ⟨v, rfl, v, rfl, ht, fun ⟨i, ei, i1, i2⟩ => ?_, ke⟩
    subst ei
    obtain ⟨d, rfl⟩ := Int.eq_ofNat_of_zero_le (show 0 ≤ i by omega)
    have kk := kk d rfl (by omega) (by omega)
    refine ⟨(by show 0 ≤ sizeLine; decide), fun l H1 nl s1 hl1 => ?_⟩
    have en : ((d : Int) + 1).toNat = d + 1 := by omega
    refine ⟨_, rfl, _, _, rfl, rfl, _, rfl, by omega, by omega, ?_⟩
    rw [en]
    refine for_range (n := d + 1) (fun i σ H2 => (∃ v2 v3, σ = [some (.int d), some (.ref l), v2, v3]) ∧ Same H H2 ∧ Grow H2 l ((ptsTo d i).map pt)) ⟨⟨none, none, rfl⟩, s1, [], hl1, iss_nil⟩ ?_ ?_
    · rintro i σ H2 hi ⟨⟨v2, v3, rfl⟩, s2, g2⟩
      refine ⟨_, rfl, _, rfl, _, _, rfl, rfl, 1, rfl, 1, rfl, _, _, rfl, ⟨by omega, by omega, by decide, by decide⟩, ?_⟩
      have en2 : ((d : Int) - (0 + (i : Int)) - -1).toNat = d + 1 - i := by omega
      rw [en2]
      refine for_down (n := d + 1 - i) (fun j σ H3 => (∃ v3, σ = [some (.int d), some (.ref l), some (.int (0 + i)), v3]) ∧ Same H H3 ∧ Grow H3 l ((ptsTo d i ++ rowP d i j).map pt)) ⟨⟨v3, rfl⟩, s2, by simpa [rowP] using g2⟩ ?_ ?_
      · rintro j σ H3 hj ⟨⟨v3, rfl⟩, s3, vs, hl3, hvs⟩
        refine ⟨_, rfl, .inl ⟨rfl, _, SqL.of hl3⟩, _, rfl, _, rfl, (by show 2 ≤ sizeLine; decide), fun t H4 nt s4 ht4 => ?_⟩
        have hln := ptsTo_len d i (by omega) (by omega)
        refine ⟨l, vs, _, rfl, rfl, s4 _ _ hl3, small1000 (by rw [hvs.length, List.length_map, List.length_append, rowP_length]; omega), ⟨_, rfl⟩, (s3.trans s4).put nl, ?_⟩
        rw [rowP_succ, ← List.append_assoc, List.map_append]
        refine grow_add (hvs.mono (hid_mono s4)) (is_pt (p := ((i : Int), (d : Int) - (i : Int) - (j : Int))) ?_)
        rw [hid_at (ne_of_none hl3 nt).symm, ht4, Int.zero_add]
      · rintro σ H3 ⟨⟨v3, rfl⟩, s3, g3⟩
        rw [← ptsTo_succ] at g3
        exact ⟨⟨_, _, rfl⟩, s3, g3⟩
    · rintro σ H2 ⟨⟨v2, v3, rfl⟩, s2, g2⟩
      exact ⟨_, rfl, kk l H2 s2 nl g2.is⟩
theorem cut_one {rs : List V} (h : 1 ≤ rs.length) : cutV rs (some 1) none = rs.drop 1 := by
  unfold cutV
  rw [show (1 : Int) = ((1 : Nat) : Int) from rfl, HT.sIx_nat, HT.sIx_none, Nat.min_eq_left h, List.take_of_length_le (by simp)]
theorem ok_leaving_out : ∀ n : Nat, FnOk P w K mg base CX0 n T.f_leaving_out T.d_leaving_out ["row", "k"] (spLv n K)
  | 0 => ⟨fun vs H Q E h => by obtain ⟨_, _, _, _, _, h, _⟩ := h; omega, fun A outer s H args us vs Q E _ _ _ _ h => by obtain ⟨_, _, _, _, _, h, _⟩ := h; omega⟩
  | n + 1 => by
    have ih := ok_leaving_out n
    refine T.F_leaving_out.ok sc_leaving_out (fun vs H Q E h => ?_) (fun cdv A outer s H vs Q E hr h => ?_)
    · obtain ⟨_, _, _, rfl, _⟩ := h
      rfl
    · obtain ⟨a, rs, k, rfl, hS, hn, hL, kk⟩ := h
      refine ⟨_, (pss_cons (ps_if (pt_cmpR op_gt (pv 1) (pe_callB call_len_seq (by rfl) T.n_len boot_len (pa_cons (pv 0) pa_nil)) (nomark _)) (pss_one (ps_ret (pe_lst pa_nil))) pss_nil)
      (pss_cons (ps_if (pt_cmpR op_eq (pv 1) pe_int (nomark _)) (pss_one (ps_ret (pe_lst (pa_cons (pe_callTy call_list_of (by rfl) T.n_list boot_list (pa_cons (pv 0) pa_nil)) pa_nil)))) pss_nil)
      (pss_cons (ps_setcB (i := 2) sc_leaving_out.nd rfl (by first | exact Or.inl rfl | exact Or.inr rfl) (.inl rfl) (XN := ["row", "k", "with_first"]) (sc := defScope s_leaving_out) (N := ["rest", "row"]) (own := 1) (js := [0]) rfl (by decide +kernel) rfl rfl (pi_list (pe_call ih hr (by rfl) T.m_leaving_out T.F_leaving_out.kp T.B_leaving_out .nil pass0 (pa_cons (pe_slice sl_list (pv 0) (po_some pe_int) po_none) (pa_cons (pv 1) pa_nil)))) (fun _ _ _ _ => (pg_name (i := 0) (show List.Nodup (["rest", "row"] : List Str) by decide +kernel) rfl (Or.inl rfl) (.inr rfl))) (ownG_name (by decide)) (fun _ _ _ _ => pifs_nil) (fun _ _ _ _ => (pe_op op_cat (pe_lst (pa_cons (pe_ix (ix_listK (K := K) rfl) (pv 1) pe_int (fun _ _ => rfl)) pa_nil)) (pv 0))))
      (pss_one (ps_ret (pe_op op_cat (pv 2) (pe_call ih hr (by rfl) T.m_leaving_out T.F_leaving_out.kp T.B_leaving_out .nil pass0 (pa_cons (pe_slice sl_list (pv 0) (po_some pe_int) po_none) (pa_cons (pe_op op_sub (pv 1) pe_int) pa_nil))))))))), ?_⟩
      refine ⟨_, rfl, _, rfl, a, _, rfl, .inl hS, _, _, rfl, rfl, _, rfl, iteD (fun hk => ?_) (fun hk => ?_)⟩
      · refine ⟨Nat.zero_le _, fun l nl => ?_⟩
        exact kk l [] _ (Same.new nl) nl upd_same (by rw [lv_none rs k (by omega)]; exact Lists.nil)
      refine ⟨_, rfl, rfl, _, rfl, iteE (fun hz => ?_) (fun hz => ?_)⟩
      · refine ⟨_, rfl, a, _, rfl, .inl hS, fun b nb => ?_⟩
        have sb : Same H (upd H b (.lst rs)) := Same.new nb
        refine ⟨(by show 1 ≤ sizeLine; decide), fun l nl => ?_⟩
        refine kk l [.ref b] _ (sb.put (sb.free nl)) (sb.free nl) upd_same ?_
        have ez : k = 0 := by omega
        have e0 : lvA rs k = [rs] := by rw [ez]; cases rs <;> rfl
        rw [e0]
        exact Lists.one nb (by rw [upd_ne (ne_of_none upd_same nl)]; exact upd_same)
      obtain ⟨x, rs, rfl⟩ : ∃ x rs', rs = x :: rs' := by
        cases rs with
        | nil => simp at hk; omega
        | cons x rs => exact ⟨x, rs, rfl⟩
      obtain ⟨k, rfl⟩ : ∃ k', k = k' + 1 := ⟨k - 1, by omega⟩
      simp only [List.length_cons] at hn hL
      refine ⟨_, rfl, 1, rfl, a, _, rfl, hS, ?_⟩
      rw [cut_one (by simp)]
      intro b nb
      have sb : Same H (upd H b (.lst ((x :: rs).drop 1))) := Same.new nb
      refine ⟨_, rfl, b, rs, k + 1, rfl, SqL.of upd_same, by omega, by omega, fun l1 us H1 s1 nl1 hl1 L1 => ?_⟩
      have sA := sb.trans s1
      have nl1H : H l1 = none := sb.free nl1
      have L1 := L1.mono sb (Same.refl _)
      clear s1 nl1
      refine ⟨l1, rfl, ⟨_, SqL.of hl1⟩, fun acc na => ?_⟩
      refine comp_list (xs := us) (own := 1) (js := [0]) (fun i H2 => Same H1 H2 ∧ ∃ vs, H2 acc = some (.lst vs) ∧ Lists (upd H acc (.lst [])) H2 (((lvA rs (k + 1)).take i).map (x :: ·)) vs) ⟨Same.new na, [], upd_same, by simpa using Lists.nil⟩ (fun i H2 _ h => h.1.seq (SqL.of hl1)) ?_ ?_ mono_name mono_yes ?_
      · rintro i v H2 hi ⟨s2, vs, hacc, L2⟩
        have hiu : i < us.length := (List.getElem?_eq_some_iff.mp hi).1
        have hiw : i < (lvA rs (k + 1)).length := by rw [← L1.1]; exact hiu
        obtain ⟨a1, e1, _, e3⟩ := L1.2 i _ (List.getElem?_eq_getElem hiw)
        rw [hi] at e1
        cases e1
        have hw := lv_item rs (k + 1) _ (List.getElem_mem hiw)
        have hl := lv_len rs (k + 1)
        have hp : 2 ^ rs.length ≤ 2 ^ 20 := Nat.pow_le_pow_right (by decide) (by omega)
        have lvs : vs.length ≤ i := by rw [L2.1, List.length_map, List.length_take]; omega
        refine yesN ?_
        refine ⟨_, rfl, a, _, _, x, rfl, rfl, (sA.trans s2).seq hS, atI_nat (j := 0) rfl, (by show 1 ≤ sizeLine; decide), fun c nc => ?_⟩
        have sc : Same H2 (upd H2 c (.lst [x])) := Same.new nc
        refine ⟨_, rfl, c, a1, _, _, rfl, rfl, upd_same, sc _ _ (s2 _ _ e3), by rw [sizeLine_eq]; simp; omega, fun d nd => ?_⟩
        have sd : Same (upd H2 c (.lst [x])) (upd (upd H2 c (.lst [x])) d (.lst ([x] ++ (lvA rs (k + 1))[i]))) := Same.new nd
        have hacc2 := sd _ _ (sc _ _ hacc)
        have ndH : H d = none := (sA.trans s2).free (sc.free nd)
        have had : d ≠ acc := (ne_of_none (sc _ _ hacc) nd).symm
        refine ⟨acc, _, _, rfl, rfl, hacc2, by rw [sizeLine_eq]; omega, ((s2.trans sc).trans sd).put na, _, upd_same, ?_⟩
        rw [List.take_add_one, List.getElem?_eq_getElem hiw, List.map_append]
        refine Lists.append ?_ (Lists.one (by rw [upd_ne had]; exact ndH) (by rw [upd_ne had, upd_same]; rfl))
        refine ⟨L2.1, fun j ws e => ?_⟩
        obtain ⟨a3, f1, f2, f3⟩ := L2.2 j ws e
        refine ⟨a3, f1, f2, ?_⟩
        have : a3 ≠ acc := fun z => by
          rw [z, upd_same] at f2
          cases f2
        rw [upd_ne this]
        exact sd _ _ (sc _ _ f3)
      · rintro H2 ⟨s2, vs, hacc, L2⟩
        rw [L1.1, List.take_length] at L2
        have sB := sA.trans s2
        refine ⟨_, rfl, _, rfl, 1, rfl, a, _, rfl, sB.seq hS, ?_⟩
        rw [cut_one (by simp)]
        intro b2 nb2
        have sb2 : Same H2 (upd H2 b2 (.lst ((x :: rs).drop 1))) := Same.new nb2
        refine ⟨_, rfl, _, _, rfl, rfl, ?_⟩
        refine ⟨b2, rs, k, by show [V.ref b2, V.int (((k + 1 : Nat) : Int) - 1)] = _; rw [show (((k + 1 : Nat) : Int)) - 1 = (k : Int) by omega], SqL.of upd_same, by omega, by omega, fun l2 us2 H3 s3 nl2 hl2 L3 => ?_⟩
        have sC := sb2.trans s3
        have hl1' := lv_len rs (k + 1)
        have hl2' := lv_len rs k
        have hp : 2 ^ rs.length ≤ 2 ^ 20 := Nat.pow_le_pow_right (by decide) (by omega)
        refine ⟨acc, l2, vs, us2, rfl, rfl, sC _ _ hacc, hl2, by rw [sizeLine_eq, L2.1, L3.1, List.length_map]; omega, fun q nq => ?_⟩
        have sq : Same H3 (upd H3 q (.lst (vs ++ us2))) := Same.new nq
        refine kk q _ _ ((sB.trans sC).trans sq) ((sB.trans sC).free nq) upd_same ?_
        rw [lvA]
        exact Lists.append (L2.mono (Same.new (sA.free na)) (sC.trans sq)) (L3.mono (sB.trans sb2) sq)
      · rintro σ H R R' k' ⟨v1, e1, p1, x1, i1, y1, e2, e3, e4, e5, z, hq⟩
        refine ⟨v1, e1, p1, x1, i1, y1, e2, e3, e4, e5, z, fun c nc => ?_⟩
        obtain ⟨v2, f1, l, b, xs, zs, f2, f3, f4, f5, f6, hq⟩ := hq c nc
        exact ⟨v2, f1, l, b, xs, zs, f2, f3, f4, f5, f6, fun d nd => k' _ _ (hq d nd)⟩
theorem cut_inner {rs : List V} (h : 2 ≤ rs.length) : cutV rs (some 1) (some (-1)) = (rs.drop 1).dropLast := by
  have e1 : HT.sIx rs.length 0 (some 1) = 1 := by
    show (if (1 : Int) < 0 then ((1 : Int) + (rs.length : Int)).toNat else min (1 : Int).toNat rs.length) = 1
    rw [if_neg (by decide)]
    show min 1 rs.length = 1
    omega
  have e2 : HT.sIx rs.length rs.length (some (-1)) = rs.length - 1 := by
    show (if (-1 : Int) < 0 then ((-1 : Int) + (rs.length : Int)).toNat else min (-1 : Int).toNat rs.length) = rs.length - 1
    rw [if_pos (by decide)]
    omega
  unfold cutV
  rw [e1, e2, List.dropLast_eq_take, List.length_drop]
theorem iss_hid {H : Hp} {acc : Addr} {zs : List V} (ha : H acc = some (.lst zs)) : ∀ {ps : List Pt} {vs : List V}, Iss H (ps.map pt) vs → Iss (hid H acc) (ps.map pt) vs
  | [], _, h => by rw [of_nil h]; exact iss_nil
  | p :: ps, _, h => by
    obtain ⟨u, us, rfl, h1, h2⟩ := of_cons h
    obtain ⟨a, rfl, hp⟩ := of_pt h1
    exact iss_cons (is_pt (by rw [hid_at (by rintro rfl; rw [ha] at hp; cases hp)]; exact hp)) (iss_hid ha h2)
theorem pts_hid {H : Hp} {acc c : Addr} {zs : List V} {ps : List Pt} (ha : H acc = some (.lst zs)) (ne : c ≠ acc) (h : Is H (pts ps) (.ref c)) : Is (hid H acc) (pts ps) (.ref c) := by
  obtain ⟨_, ws, e, hc, r⟩ := of_pts h
  cases e
  exact is_l (by rw [hid_at ne]; exact hc) (iss_hid ha r)
def Both (H : Hp) (W : List (List Pt)) (Z : List (List V)) : Prop := W.length = Z.length ∧ ∀ (i : Nat) w, W[i]? = some w → ∃ z, Z[i]? = some z ∧ Iss H (w.map pt) z
theorem Both.app {H : Hp} {W W' : List (List Pt)} {Z Z' : List (List V)} (h : Both H W Z) (k : Both H W' Z') : Both H (W ++ W') (Z ++ Z') := by
  refine ⟨by rw [List.length_append, List.length_append, h.1, k.1], fun i w e => ?_⟩
  rcases Nat.lt_or_ge i W.length with q | q
  · rw [List.getElem?_append_left q] at e
    rw [List.getElem?_append_left (by rw [← h.1]; exact q)]
    exact h.2 i w e
  · rw [List.getElem?_append_right q] at e
    rw [List.getElem?_append_right (by rw [← h.1]; exact q), ← h.1]
    exact k.2 _ w e
theorem lv_both {H : Hp} : ∀ (row : List Pt) (rs : List V) (k : Nat), Iss H (row.map pt) rs → Both H (lvA row k) (lvA rs k)
  | row, rs, 0, h => by
    have e1 : ∀ {α : Type} (l : List α), lvA l 0 = [l] := fun l => by cases l <;> rfl
    rw [e1, e1]
    refine ⟨rfl, fun i w e => ?_⟩
    match i, e with
    | 0, e => cases e; exact ⟨rs, rfl, h⟩
    | i + 1, e => simp at e
  | [], rs, k + 1, h => by
    rw [of_nil h]
    exact ⟨rfl, fun i w e => by simp [lvA] at e⟩
  | p :: row, rs, k + 1, h => by
    obtain ⟨u, us, rfl, h1, h2⟩ := of_cons h
    rw [lvA, lvA]
    refine Both.app ?_ (lv_both row us k h2)
    obtain ⟨l, g⟩ := lv_both row us (k + 1) h2
    refine ⟨by rw [List.length_map, List.length_map, l], fun i w e => ?_⟩
    rw [List.getElem?_map] at e
    obtain ⟨w', hw', rfl⟩ := Option.map_eq_some_iff.mp e
    obtain ⟨z, hz, hi⟩ := g i w' hw'
    exact ⟨u :: z, by rw [List.getElem?_map, hz]; rfl, iss_cons h1 hi⟩
theorem lv_iss {H : Hp} {k : Nat} {row : List Pt} {rs : List V} (h : Iss H (row.map pt) rs) (i : Nat) (w : List Pt) (e : (lvA row k)[i]? = some w) : ∃ ws, (lvA rs k)[i]? = some ws ∧ Iss H (w.map pt) ws := (lv_both row rs k h).2 i w e
theorem lv_length {H : Hp} {k : Nat} {row : List Pt} {rs : List V} (h : Iss H (row.map pt) rs) : (lvA rs k).length = (lvA row k).length := (lv_both row rs k h).1.symm
theorem iss_pick {H : Hp} {W : List (List Pt)} {vs : List V} (h : Iss H (W.map pts) vs) : ∀ (l : List Nat), (∀ i ∈ l, i < W.length) → Iss H ((l.map fun i => W.getD i []).map pts) (l.map fun i => vs.getD i .non)
  | [], _ => iss_nil
  | i :: l, hl => by
    have hi : i < W.length := hl i (by simp)
    have hr : i < vs.length := by rw [h.length, List.length_map]; exact hi
    refine iss_cons ?_ (iss_pick h l fun j hj => hl j (by simp [hj]))
    obtain ⟨d, hd, h1⟩ := h.of_get (List.getElem?_eq_getElem hr)
    rw [List.getElem?_map, List.getElem?_eq_getElem hi] at hd
    cases hd
    show Is H (pts (W.getD i [])) (vs.getD i .non)
    rw [List.getD_eq_getElem?_getD, List.getD_eq_getElem?_getD, List.getElem?_eq_getElem hi, List.getElem?_eq_getElem hr]
    exact h1
theorem pts_first {d : Nat} (h1 : 1 ≤ d) (h4 : d ≤ 4) : (ptsOf d)[0]? = some (p0 d) := by
  have : d = 1 ∨ d = 2 ∨ d = 3 ∨ d = 4 := by omega
  rcases this with rfl | rfl | rfl | rfl <;> decide +kernel
theorem pts_last {d : Nat} (h1 : 1 ≤ d) (h4 : d ≤ 4) : atI ((ptsOf d).map pt) (-1) = some (pt (pl d)) := by
  have e : (ptsOf d)[(ptsOf d).length - 1]? = some (pl d) ∧ 1 ≤ (ptsOf d).length := by
    have : d = 1 ∨ d = 2 ∨ d = 3 ∨ d = 4 := by omega
    rcases this with rfl | rfl | rfl | rfl <;> decide +kernel
  unfold atI ixN
  rw [List.length_map, if_neg (by decide), if_pos (by omega)]
  show ((ptsOf d).map pt)[((-1 : Int) + ((ptsOf d).length : Int)).toNat]? = some (pt (pl d))
  rw [show ((-1 : Int) + ((ptsOf d).length : Int)).toNat = (ptsOf d).length - 1 by omega, List.getElem?_map, e.1]
  rfl
def Bits (d k : Nat) : Prop := (¬ (rawW d k).length < 2 → ∃ p, sAll (cW (rawW d k)) (rawW d k).length = some p ∧ p.size ≤ 1000 ∧ ∀ i ∈ p.toList, i < (rawW d k).length) ∧ (rawW d k).length ≤ 1000 ∧ ((sW d k).length : Int) = choF ((ptsOf d).length - 2) k ∧ (∀ w ∈ sW d k, wayB d k w = true) ∧ ltsB (sW d k) = true ∧ ∀ w ∈ rawW d k, w ∈ sW d k
theorem rest_of {d k : Nat} {S : List (List Pt)} (h : restB d k S = true) : (rawW d k).length ≤ 1000 ∧ (S.length : Int) = choF ((ptsOf d).length - 2) k ∧ (∀ w ∈ S, wayB d k w = true) ∧ ltsB S = true ∧ ∀ w ∈ rawW d k, w ∈ S := by
  unfold restB at h
  simp only [Bool.and_eq_true, decide_eq_true_eq, List.all_eq_true, List.contains_iff_mem] at h
  obtain ⟨⟨⟨⟨e2, e3⟩, e4⟩, e5⟩, e6⟩ := h
  exact ⟨e2, e3, e4, e5, e6⟩
theorem bits_few {d k : Nat} (hl : (rawW d k).length < 2) (hr : restB d k (rawW d k) = true) : Bits d k := by
  have e : sW d k = rawW d k := by unfold sW; rw [if_pos hl]
  unfold Bits
  rw [e]
  exact ⟨fun h => absurd hl h, rest_of hr⟩
theorem bits_sort {d k : Nat} {p : List Nat} (hl : ¬ (rawW d k).length < 2) (ho : oW d k = some p.toArray) (hp : (decide (p.length ≤ 1000) && p.all fun i => decide (i < (rawW d k).length)) = true) (hr : restB d k (p.map fun i => (rawW d k).getD i []) = true) : Bits d k := by
  have e : sW d k = p.map fun i => (rawW d k).getD i [] := by
    unfold sW
    rw [if_neg hl, ho]
    rfl
  simp only [Bool.and_eq_true, decide_eq_true_eq, List.all_eq_true] at hp
  unfold Bits
  rw [e]
  exact ⟨fun _ => ⟨p.toArray, ho, by simpa using hp.1, fun i hi => hp.2 i (by simpa using hi)⟩, rest_of hr⟩
theorem b_1_0 : Bits 1 0 := bits_few (by decide +kernel) (by decide +kernel)
theorem b_1_1 : Bits 1 1 := bits_few (by decide +kernel) (by decide +kernel)
theorem b_1_2 : Bits 1 2 := bits_few (by decide +kernel) (by decide +kernel)
theorem b_1_3 : Bits 1 3 := bits_few (by decide +kernel) (by decide +kernel)
theorem b_1_4 : Bits 1 4 := bits_few (by decide +kernel) (by decide +kernel)
theorem b_1_5 : Bits 1 5 := bits_few (by decide +kernel) (by decide +kernel)
theorem b_1_6 : Bits 1 6 := bits_few (by decide +kernel) (by decide +kernel)
theorem b_2_0 : Bits 2 0 := bits_few (by decide +kernel) (by decide +kernel)
theorem b_2_1 : Bits 2 1 := bits_sort (p := [3, 1, 0, 2]) (by decide +kernel) (by decide +kernel) (by decide +kernel) (by decide +kernel)
theorem b_2_2 : Bits 2 2 := bits_sort (p := [4, 3, 0, 2, 1, 5]) (by decide +kernel) (by decide +kernel) (by decide +kernel) (by decide +kernel)
theorem b_2_3 : Bits 2 3 := bits_sort (p := [1, 0, 3, 2]) (by decide +kernel) (by decide +kernel) (by decide +kernel) (by decide +kernel)
theorem b_2_4 : Bits 2 4 := bits_few (by decide +kernel) (by decide +kernel)
theorem b_2_5 : Bits 2 5 := bits_few (by decide +kernel) (by decide +kernel)
theorem b_2_6 : Bits 2 6 := bits_few (by decide +kernel) (by decide +kernel)
theorem b_3_0 : Bits 3 0 := bits_few (by decide +kernel) (by decide +kernel)
theorem b_3_1 : Bits 3 1 := bits_sort (p := [7, 6, 4, 3, 1, 0, 2, 5]) (by decide +kernel) (by decide +kernel) (by decide +kernel) (by decide +kernel)
theorem b_3_2 : Bits 3 2 := bits_sort (p := [27, 25, 24, 22, 21, 23, 26, 19, 18, 16, 15, 17, 9, 7, 6, 8, 4, 3, 0, 2, 1, 5, 14, 13, 11, 10, 12, 20]) (by decide +kernel) (by decide +kernel) (by decide +kernel) (by decide +kernel)
theorem b_3_3 : Bits 3 3 := bits_sort (p := [54, 53, 51, 50, 52, 44, 42, 41, 43, 39, 38, 35, 37, 36, 40, 49, 48, 46, 45, 47, 29, 27, 26, 28, 24, 23, 20, 22, 21, 25, 8, 7, 4, 6, 5, 1, 0, 3, 2, 9, 19, 17, 16, 18, 14, 13, 10, 12, 11, 15, 34, 33, 31, 30, 32, 55]) (by decide +kernel) (by decide +kernel) (by decide +kernel) (by decide +kernel)
theorem b_3_4 : Bits 3 4 := bits_sort (p := [64, 62, 61, 63, 59, 58, 55, 57, 56, 60, 43, 42, 39, 41, 40, 36, 35, 38, 37, 44, 54, 52, 51, 53, 49, 48, 45, 47, 46, 50, 23, 22, 19, 21, 20, 16, 15, 18, 17, 24, 2, 1, 0, 4, 3, 13, 12, 9, 11, 10, 6, 5, 8, 7, 14, 34, 32, 31, 33, 29, 28, 25, 27, 26, 30, 69, 68, 66, 65, 67]) (by decide +kernel) (by decide +kernel) (by decide +kernel) (by decide +kernel)
theorem b_3_5 : Bits 3 5 := bits_sort (p := [44, 43, 40, 42, 41, 37, 36, 39, 38, 45, 23, 22, 21, 25, 24, 34, 33, 30, 32, 31, 27, 26, 29, 28, 35, 8, 7, 6, 10, 9, 0, 3, 2, 1, 5, 4, 19, 18, 15, 17, 16, 12, 11, 14, 13, 20, 55, 53, 52, 54, 50, 49, 46, 48, 47, 51]) (by decide +kernel) (by decide +kernel) (by decide +kernel) (by decide +kernel)
theorem b_3_6 : Bits 3 6 := bits_sort (p := [15, 14, 13, 17, 16, 7, 10, 9, 8, 12, 11, 1, 0, 4, 3, 2, 6, 5, 26, 25, 22, 24, 23, 19, 18, 21, 20, 27]) (by decide +kernel) (by decide +kernel) (by decide +kernel) (by decide +kernel)
theorem b_4_0 : Bits 4 0 := bits_few (by decide +kernel) (by decide +kernel)
theorem b_4_1 : Bits 4 1 := bits_sort (p := [12, 11, 10, 8, 7, 6, 4, 3, 1, 0, 2, 5, 9]) (by decide +kernel) (by decide +kernel) (by decide +kernel) (by decide +kernel)
theorem b_4_2 : Bits 4 2 := bits_sort (p := [77, 76, 74, 73, 72, 70, 69, 67, 66, 68, 71, 75, 65, 63, 62, 61, 59, 58, 56, 55, 57, 60, 64, 53, 52, 51, 49, 48, 46, 45, 47, 50, 35, 34, 32, 31, 29, 28, 30, 33, 27, 25, 24, 22, 21, 23, 26, 19, 18, 16, 15, 17, 9, 7, 6, 8, 4, 3, 0, 2, 1, 5, 14, 13, 11, 10, 12, 20, 44, 43, 42, 40, 39, 37, 36, 38, 41, 54]) (by decide +kernel) (by decide +kernel) (by decide +kernel) (by decide +kernel)
theorem okW_bits {d k : Nat} (h : Narrow d k) : Bits d k := by
  unfold Narrow at h
  have hd : d = 1 ∨ d = 2 ∨ d = 3 ∨ d = 4 := by omega
  have hk : k = 0 ∨ k = 1 ∨ k = 2 ∨ k = 3 ∨ k = 4 ∨ k = 5 ∨ k = 6 := by omega
  rcases hd with rfl | rfl | rfl | rfl <;> rcases hk with rfl | rfl | rfl | rfl | rfl | rfl | rfl
  · exact b_1_0
  · exact b_1_1
  · exact b_1_2
  · exact b_1_3
  · exact b_1_4
  · exact b_1_5
  · exact b_1_6
  · exact b_2_0
  · exact b_2_1
  · exact b_2_2
  · exact b_2_3
  · exact b_2_4
  · exact b_2_5
  · exact b_2_6
  · exact b_3_0
  · exact b_3_1
  · exact b_3_2
  · exact b_3_3
  · exact b_3_4
  · exact b_3_5
  · exact b_3_6
  · exact b_4_0
  · exact b_4_1
  · exact b_4_2
  · omega
  · omega
  · omega
  · omega
theorem ok_need_narrow : FnOk P w K mg base (CX1 P w) 3 T.f_need_narrow T.d_need_narrow ["d", "k"] (spNar T.c_NoBound) := by
  refine T.F_need_narrow.okx sc_need_narrow (fun vs H Q E h => ?_) (fun cdv A outer s H vs Q E hr h hR hp => ?_)
  · obtain ⟨_, _, rfl, _⟩ := h
    rfl
  · obtain ⟨v, u, rfl, ht, hu, kk, ke⟩ := h
    refine ⟨_, (pss_cons (ps_expr (pe_call (ok_need_between T) (hr.mono (by decide)) (by rfl) T.m_need_between T.F_need_between.kp T.B_need_between .nil hp (pa_cons (pv 0) (pa_cons pe_int (pa_cons pe_int pa_nil)))))
      (pss_one (ps_expr (pe_call (ok_need_between T) (hr.mono (by decide)) (by rfl) T.m_need_between T.F_need_between.kp T.B_need_between .nil hp (pa_cons (pv 1) (pa_cons pe_int (pa_cons (pe_dgetM (pe_glob (v := .ref T.a_NARROW) (by rfl) T.m_NARROW (by rfl)) (pv 0) (fun _ _ => rfl)) pa_nil))))))), ?_⟩
    refine ⟨_, rfl, v, 1, 4, rfl, ht, .inr (.inl ⟨rfl, rfl⟩), fun ⟨i, ei, i1, i2⟩ => ?_, fun hn => ke fun ⟨d, k, e1, _, hN⟩ => hn ⟨_, e1, by unfold Narrow at hN; omega, by unfold Narrow at hN; omega⟩⟩
    subst ei
    obtain ⟨d, rfl⟩ := Int.eq_ofNat_of_zero_le (show 0 ≤ i by omega)
    have hd : d = 1 ∨ d = 2 ∨ d = 3 ∨ d = 4 := by omega
    obtain ⟨hi, hl, hb, hN⟩ : ∃ hi : Int, ([(1, 6), (2, 6), (3, 6), (4, 2)] : List (Int × Int)).lookup (d : Int) = some hi ∧ Bnds 0 hi ∧ ∀ k : Nat, Narrow d k ↔ (k : Int) ≤ hi := by
      rcases hd with rfl | rfl | rfl | rfl
      · exact ⟨6, rfl, .inr (.inr (.inl ⟨rfl, rfl⟩)), fun k => by unfold Narrow; omega⟩
      · exact ⟨6, rfl, .inr (.inr (.inl ⟨rfl, rfl⟩)), fun k => by unfold Narrow; omega⟩
      · exact ⟨6, rfl, .inr (.inr (.inl ⟨rfl, rfl⟩)), fun k => by unfold Narrow; omega⟩
      · exact ⟨2, rfl, .inr (.inr (.inr ⟨rfl, rfl⟩)), fun k => by unfold Narrow; omega⟩
    refine ⟨_, rfl, _, rfl, T.a_NARROW, _, d, hi, rfl, T.D_NARROW, rfl, hl, u, 0, hi, rfl, hu, hb, fun ⟨j, ej, j1, j2⟩ => ?_, fun hn => ke fun ⟨d', k, e1, e2, hNk⟩ => ?_⟩
    · obtain ⟨k, rfl⟩ := Int.eq_ofNat_of_zero_le j1
      exact kk ⟨d, k, rfl, ej, (hN k).mpr j2⟩
    · obtain rfl : d' = d := by have := V.int.inj e1; omega
      exact hn ⟨k, e2, by omega, (hN k).mp hNk⟩
theorem ok_ways : FnOk P w K mg base (CX1 P w) 22 T.f_ways T.d_ways ["d", "k"] (spWays T.c_NoBound) := by
  refine T.F_ways.okx sc_ways (fun vs H Q E h => ?_) (fun cdv A outer s H vs Q E hr h hR hp => ?_)
  · obtain ⟨_, _, rfl, _⟩ := h
    rfl
  · obtain ⟨v, u, rfl, ht, hu, kk, ke⟩ := h
    refine ⟨_, (pss_cons (ps_expr (pe_call (ok_need_narrow T) (hr.mono (by decide)) (by rfl) T.m_need_narrow T.F_need_narrow.kp T.B_need_narrow .nil hp (pa_cons (pv 0) (pa_cons (pv 1) pa_nil))))
      (pss_cons (ps_set (i := 2) sc_ways.nd rfl (by first | exact Or.inl rfl | exact Or.inr rfl) (pe_call (ok_points T) (hr.mono (by decide)) (by rfl) T.m_points T.F_points.kp T.B_points .nil hp (pa_cons (pv 0) pa_nil)))
      (pss_one (ps_ret (pe_callB (call_sortedA hr) (by rfl) T.n_sorted boot_sorted (pa_cons (pe_compB (XN := ["d", "k", "row"]) (sc := defScope s_ways) (N := ["between", "row"]) (own := 1) (js := [2]) rfl (by decide +kernel) rfl rfl (pi_list (pe_call (ok_leaving_out T 20) (hr.mono (by decide)) (by rfl) T.m_leaving_out T.F_leaving_out.kp T.B_leaving_out .nil pass0 (pa_cons (pe_slice sl_list (pv 2) (po_some pe_int) (po_some (pe_un un_neg pe_int))) (pa_cons (pv 1) pa_nil)))) (fun _ _ _ _ => (pg_name (i := 0) (show List.Nodup (["between", "row"] : List Str) by decide +kernel) rfl (Or.inl rfl) (.inr rfl))) (ownG_name (by decide)) (fun _ _ _ _ => pifs_nil) (fun _ _ _ _ => (pe_op op_catN (pe_op op_catN (pe_lstN (pa_cons (pe_ix ix_listN (pv 1) pe_int (fun _ _ => rfl)) pa_nil)) (pv 0)) (pe_lstN (pa_cons (pe_ix ix_listN (pv 1) (pe_un un_neg pe_int) (fun _ _ => rfl)) pa_nil))))) pa_nil)))))), ?_⟩
    refine ⟨_, rfl, _, rfl, v, u, rfl, ht, hu, fun ⟨d, k, e1, e2, hN⟩ => ?_, ke⟩
    subst e1 e2
    have k2 := kk d k rfl rfl hN
    clear kk ke
    have d1 : 1 ≤ d := hN.1
    have d4 : d ≤ 4 := by unfold Narrow at hN; omega
    refine ⟨_, rfl, .int d, rfl, .inl ⟨_, rfl⟩, fun n en _ _ l0 H1 s1 nl0 hl0 => ?_, fun h => absurd ⟨_, rfl, by omega, by omega⟩ h⟩
    obtain rfl : n = d := by have := V.int.inj en; omega
    obtain ⟨_, rs, e, hrs, his⟩ := of_pts hl0
    cases e
    have rlen : rs.length = (ptsOf n).length := by rw [his.length, List.length_map]
    have plen : 3 ≤ (ptsOf n).length ∧ (ptsOf n).length ≤ 15 := by
      have : n = 1 ∨ n = 2 ∨ n = 3 ∨ n = 4 := by omega
      rcases this with rfl | rfl | rfl | rfl <;> decide +kernel
    refine ⟨_, rfl, 1, rfl, 1, rfl, _, rfl, l0, rs, rfl, SqL.of hrs, ?_⟩
    rw [cut_inner (by omega)]
    intro b nb
    have sb : Same H1 (upd H1 b (.lst ((rs.drop 1).dropLast))) := Same.new nb
    have mlen : ((rs.drop 1).dropLast).length = rs.length - 2 := by simp; omega
    refine ⟨_, rfl, b, _, k, rfl, SqL.of upd_same, by omega, by omega, fun l1 us H2 s2 nl1 hl1 L1 => ?_⟩
    have mis : Iss H1 ((midP n).map pt) ((rs.drop 1).dropLast) := by
      unfold midP
      have := (his.drop 1)
      rw [← List.map_drop] at this
      have t2 := this.take ((rs.drop 1).length - 1)
      rw [← List.map_take] at t2
      rw [List.dropLast_eq_take, List.dropLast_eq_take]
      rw [List.length_drop] at t2 ⊢
      rw [List.length_drop, ← rlen]
      exact t2
    generalize (rs.drop 1).dropLast = ms at mis mlen sb s2 L1 nl1 ⊢
    have s12 : Same H1 H2 := sb.trans s2
    have Lis : ∀ (i : Nat) (w : List Pt), (lvA (midP n) k)[i]? = some w → ∃ a ws, us[i]? = some (.ref a) ∧ H2 a = some (.lst ws) ∧ Iss H2 (w.map pt) ws := fun i w hw => by
      obtain ⟨ws, e1, e2⟩ := lv_iss (k := k) mis i w hw
      obtain ⟨a, f1, _, f3⟩ := L1.2 i ws e1
      exact ⟨a, ws, f1, f3, e2.mono s12⟩
    have ulen : us.length = (lvA (midP n) k).length := by rw [L1.1, lv_length mis]
    have hraw := (okW_bits hN).2.1
    have rawlen : (rawW n k).length = (lvA (midP n) k).length := by unfold rawW; rw [List.length_map]
    refine ⟨l1, rfl, ⟨_, SqL.of hl1⟩, fun acc na => ?_⟩
    refine comp_list (xs := us) (own := 1) (js := [2]) (fun i H3 => Same H2 H3 ∧ Grow H3 acc (((rawW n k).take i).map pts)) ⟨Same.new na, Grow.start⟩ (fun i H3 _ h => SqL.of (h.1 _ _ hl1)) ?_ ?_ mono_name mono_yes ?_
    · rintro i x H3 hi ⟨s3, vs, hacc, hvs⟩
      have hil : i < (lvA (midP n) k).length := by rw [← ulen]; exact (List.getElem?_eq_some_iff.mp hi).1
      obtain ⟨a1, ws, f1, f2, f3⟩ := Lis i _ (List.getElem?_eq_getElem hil)
      rw [hi] at f1
      cases f1
      have wl : ((lvA (midP n) k)[i]).length ≤ 15 := by
        have := lv_item (midP n) k _ (List.getElem_mem hil)
        have : (midP n).length ≤ (ptsOf n).length := by unfold midP; simp; omega
        omega
      have hrow : Is H3 (pts (ptsOf n)) (.ref l0) := (hl0.mono s12).mono s3
      have g0 : atI ((ptsOf n).map pt) 0 = some (pt (p0 n)) := at_pt (j := 0) rfl (pts_first d1 d4)
      have gl : atI ((ptsOf n).map pt) (-1) = some (pt (pl n)) := pts_last d1 d4
      refine yesN ?_
      refine ⟨_, rfl, _, 0, _, hrow, rfl, g0, fun u hu => ⟨(by show 1 ≤ sizeLine; decide), fun c1 H4 n4 s4 h4 => ?_⟩⟩
      refine ⟨_, rfl, _, _, is_l h4 (iss_cons (hu.mono s4) iss_nil), is_l (s4 _ _ (s3 _ _ f2)) ((f3.mono s3).mono s4), Nat.le_of_lt (small1000 (by simp; omega)), fun c2 H5 n5 s5 h5 => ?_⟩
      refine ⟨_, rfl, 1, rfl, _, _, _, (hrow.mono s4).mono s5, rfl, gl, fun u2 hu2 => ⟨(by show 1 ≤ sizeLine; decide), fun c3 H6 n6 s6 h6 => ?_⟩⟩
      refine ⟨_, _, h5.mono s6, is_l h6 (iss_cons (hu2.mono s6) iss_nil), Nat.le_of_lt (small1000 (by simp; omega)), fun c4 H7 n7 s7 h7 => ?_⟩
      have s37 : Same H3 H7 := ((s4.trans s5).trans s6).trans s7
      refine ⟨acc, vs, _, rfl, rfl, s37 _ _ hacc, small1000 (by rw [hvs.length]; simp; omega), (s3.trans s37).put na, ?_⟩
      rw [List.take_add_one, show (rawW n k)[i]? = some ([p0 n] ++ (lvA (midP n) k)[i] ++ [pl n]) by unfold rawW; rw [List.getElem?_map, List.getElem?_eq_getElem hil]; rfl, List.map_append]
      have hacc6 := s6 _ _ (s5 _ _ (s4 _ _ hacc))
      refine grow_add (hvs.mono (hid_mono s37)) (pts_hid (s7 _ _ hacc6) (ne_of_none hacc6 n7).symm ?_)
      show Is H7 (.l (([p0 n] ++ (lvA (midP n) k)[i] ++ [pl n]).map pt)) _
      rw [List.map_append, List.map_append]
      exact h7
    · rintro H3 ⟨s3, g⟩
      rw [ulen, ← rawlen, List.take_length] at g
      have s03 : Same H H3 := (s1.trans s12).trans s3
      obtain ⟨_, vs, e, hacc, hvs⟩ := of_l g.is
      cases e
      have vlen : vs.length = (rawW n k).length := by rw [hvs.length, List.length_map]
      by_cases hlt : (rawW n k).length < 2
      · refine .inl ⟨acc, vs, rfl, SqL.of hacc, by omega, fun q nq => k2 q _ (s03.put (s03.free nq)) (s03.free nq) ?_⟩
        have : sW n k = rawW n k := by unfold sW; rw [if_pos hlt]
        rw [this]
        exact is_l upd_same (hvs.mono (Same.new nq))
      · obtain ⟨p, hp, hps, hpl⟩ := (okW_bits hN).1 hlt
        refine .inr ⟨acc, vs, cW (rawW n k), p, rfl, SqL.of hacc, by omega, by omega, hps, fun r hr' => ?_, fun i j bb hb => ?_, by rw [vlen]; exact hp, fun i hi => by rw [vlen]; exact hpl i hi, fun q nq => k2 q _ (s03.put (s03.free nq)) (s03.free nq) ?_⟩
        · obtain ⟨i, hi, rfl⟩ := List.mem_iff_getElem.mp hr'
          obtain ⟨dd, hdd, hy⟩ := hvs.of_get (List.getElem?_eq_getElem hi)
          rw [List.getElem?_map] at hdd
          obtain ⟨w, _, rfl⟩ := Option.map_eq_some_iff.mp hdd
          obtain ⟨a, ys, e1, e2, _⟩ := of_pts hy
          exact ⟨a, ys, e1, SqL.of e2⟩
        · unfold cW at hb
          obtain ⟨w1, h1, hb⟩ := Option.bind_eq_some_iff.mp hb
          obtain ⟨w2, h2, rfl⟩ := Option.map_eq_some_iff.mp hb
          obtain ⟨x, hx, hx'⟩ := hvs.get (j := i) (x := pts w1) (by rw [List.getElem?_map, h1]; rfl)
          obtain ⟨y, hy, hy'⟩ := hvs.get (j := j) (x := pts w2) (by rw [List.getElem?_map, h2]; rfl)
          exact ⟨x, y, hx, hy, ask_pts hx' hy'⟩
        · have : sW n k = p.toList.map fun i => (rawW n k).getD i [] := by
            unfold sW oW
            rw [if_neg hlt, hp]
            rfl
          rw [this]
          exact is_l upd_same ((iss_pick hvs p.toList hpl).mono (Same.new nq))
    · rintro σ H R R' k ⟨v1, e1, xs, i, d, h1, e2, e3, h⟩
      refine ⟨v1, e1, xs, i, d, h1, e2, e3, fun u hu => ?_⟩
      obtain ⟨z, h⟩ := h u hu
      refine ⟨z, fun p H2 np s2 hp => ?_⟩
      obtain ⟨v2, f1, a1, a2, f2, f3, f4, h⟩ := h p H2 np s2 hp
      refine ⟨v2, f1, a1, a2, f2, f3, f4, fun p H3 np s3 hp => ?_⟩
      obtain ⟨v3, g1, i3, g2, xs3, j3, d3, g3, g4, g5, h⟩ := h p H3 np s3 hp
      refine ⟨v3, g1, i3, g2, xs3, j3, d3, g3, g4, g5, fun u hu => ?_⟩
      obtain ⟨z, h⟩ := h u hu
      refine ⟨z, fun p H4 np s4 hp => ?_⟩
      obtain ⟨a1, a2, f2, f3, f4, h⟩ := h p H4 np s4 hp
      exact ⟨a1, a2, f2, f3, f4, fun p H5 np s5 hp => k _ _ (h p H5 np s5 hp)⟩
theorem cut_1 {vs : List V} : cutV vs none (some (1 : Int)) = vs.take 1 := by
  show cutV vs none (some ((1 : Nat) : Int)) = _
  exact cut_take
theorem ok__law_ways : FnOk P w K mg base CX0 2 T.f__law_ways T.d__law_ways ["_law_d", "_law_k"] (spLWs K) := by
  refine T.F__law_ways.ok sc__law_ways (fun vs H Q E h => ?_) (fun cdv A outer s H vs Q E hr h => ?_)
  · obtain ⟨_, _, rfl, _⟩ := h
    rfl
  · obtain ⟨d, k, rfl, hN, kk⟩ := h
    refine ⟨_, (pss_cons (ps_set (i := 2) sc__law_ways.nd rfl (by first | exact Or.inl rfl | exact Or.inr rfl) (pe_lstN pa_nil))
      (pss_cons (ps_for PassesOwn.never rfl (pi_range1 (by rfl) T.n_range (pa_cons (pe_op op_add (pv 0) pe_int) pa_nil)) (pg_name (i := 3) sc__law_ways.nd rfl (by first | exact Or.inl rfl | exact Or.inr rfl)) (pss_one (ps_for PassesOwn.never rfl (pi_down (by rfl) T.n_range (pa_cons (pe_op op_sub (pv 0) (pv 3)) (pa_cons (pe_un un_neg pe_int) (pa_cons (pe_un un_neg pe_int) pa_nil)))) (pg_name (i := 4) sc__law_ways.nd rfl (by first | exact Or.inl rfl | exact Or.inr rfl)) (pss_one (ps_expr (pe_bm PySem.F.plainAttrs_list PySem.F.slot_list_append PySem.F.type_list_append mt_append (pv 2) (pa_cons (pe_tupN (pa_cons (pv 3) (pa_cons (pv 4) pa_nil))) pa_nil)))))))
      (pss_cons (ps_set (i := 5) sc__law_ways.nd rfl (by first | exact Or.inl rfl | exact Or.inr rfl) (pe_lstN (pa_cons (pe_slice sl_list (pv 2) po_none (po_some pe_int)) pa_nil)))
      (pss_cons (ps_for PassesOwn.never rfl (pi_range2 (by rfl) T.n_range (pa_cons pe_int (pa_cons (pe_op op_sub (pe_callB call_lenN (by rfl) T.n_len boot_len (pa_cons (pv 2) pa_nil)) pe_int) pa_nil))) (pg_name (i := 6) sc__law_ways.nd rfl (by first | exact Or.inl rfl | exact Or.inr rfl)) (pss_cons (ps_set (i := 7) sc__law_ways.nd rfl (by first | exact Or.inl rfl | exact Or.inr rfl) (pe_lstN pa_nil))
      (pss_cons (ps_for PassesOwn.never rfl (pi_list (pv 5)) (pg_name (i := 8) sc__law_ways.nd rfl (by first | exact Or.inl rfl | exact Or.inr rfl)) (pss_cons (ps_expr (pe_bm PySem.F.plainAttrs_list PySem.F.slot_list_append PySem.F.type_list_append mt_append (pv 7) (pa_cons (pe_op op_catN (pv 8) (pe_lstN (pa_cons (pe_ix ix_listN (pv 2) (pv 6) (fun _ _ => rfl)) pa_nil))) pa_nil)))
      (pss_one (ps_if (pt_cmpR op_lt (pe_op op_sub (pv 6) (pe_callB call_lenN (by rfl) T.n_len boot_len (pa_cons (pv 8) pa_nil))) (pv 1) (nomark _)) (pss_one (ps_expr (pe_bm PySem.F.plainAttrs_list PySem.F.slot_list_append PySem.F.type_list_append mt_append (pv 7) (pa_cons (pv 8) pa_nil)))) pss_nil))))
      (pss_one (ps_set (i := 5) sc__law_ways.nd rfl (by first | exact Or.inl rfl | exact Or.inr rfl) (pv 7))))))
      (pss_one (ps_ret (pe_compB (XN := ["_law_d", "_law_k", "_law_some", "_law_x", "_law_y", "_law_rows", "_law_place", "_law_more", "_law_row"]) (sc := defScope s__law_ways) (N := ["_law_row", "_law_k", "_law_some"]) (own := 1) (js := [1, 2]) rfl (by decide +kernel) rfl rfl (pi_list (pv 5)) (fun _ _ _ _ => (pg_name (i := 0) (show List.Nodup (["_law_row", "_law_k", "_law_some"] : List Str) by decide +kernel) rfl (Or.inl rfl) (.inr rfl))) (ownG_name (by decide)) (fun _ _ _ _ => (pifs_one (pt_cmpR op_eq (pe_op op_add (pe_callB call_lenN (by rfl) T.n_len boot_len (pa_cons (pv 0) pa_nil)) pe_int) (pe_op op_sub (pe_callB call_lenN (by rfl) T.n_len boot_len (pa_cons (pv 2) pa_nil)) (pv 1)) (nomark _)))) (fun _ _ _ _ => (pe_op op_catN (pv 0) (pe_lstN (pa_cons (pe_ix ix_listN (pv 2) (pe_un un_neg pe_int) (fun _ _ => rfl)) pa_nil))))))))))), ?_⟩
    have d1 : 1 ≤ d := hN.1
    have d4 : d ≤ 4 := by unfold Narrow at hN; omega
    have k6 : k ≤ 6 := by unfold Narrow at hN; omega
    obtain ⟨_, _, hsm, _⟩ := c16 hN
    have gl := pts_last d1 d4
    have plen : 3 ≤ (ptsOf d).length ∧ (ptsOf d).length ≤ 15 := by
      have : d = 1 ∨ d = 2 ∨ d = 3 ∨ d = 4 := by omega
      rcases this with rfl | rfl | rfl | rfl <;> decide +kernel
    have sm : ∀ i, i ≤ (ptsOf d).length - 2 → (lwS (ptsOf d) k i).length ≤ 400 ∧ ∀ r ∈ lwS (ptsOf d) k i, r.length ≤ 20 := fun i hi => by
      unfold smB at hsm
      have := List.all_eq_true.mp hsm i (List.mem_range.mpr (by omega))
      simp only [Bool.and_eq_true, decide_eq_true_eq, List.all_eq_true] at this
      exact this
    unfold lwF at kk
    refine ⟨(by show 0 ≤ sizeLine; decide), fun so H0 nso s0 hl1 => ?_⟩
    have en : ((d : Int) + 1).toNat = d + 1 := by omega
    refine ⟨_, rfl, _, _, rfl, rfl, _, rfl, by omega, by omega, ?_⟩
    rw [en]
    refine for_range (n := d + 1) (fun i σ H2 => (∃ v2 v3, σ = [some (.int d), some (.int k), some (.ref so), v2, v3, none, none, none, none]) ∧ Same H H2 ∧ Grow H2 so ((ptsTo d i).map pt)) ⟨⟨none, none, rfl⟩, s0, [], hl1, iss_nil⟩ ?_ ?_
    · rintro i σ H2 hi ⟨⟨v2, v3, rfl⟩, s2, g2⟩
      refine ⟨_, rfl, _, rfl, _, _, rfl, rfl, 1, rfl, 1, rfl, _, _, rfl, ⟨by omega, by omega, by decide, by decide⟩, ?_⟩
      have en2 : ((d : Int) - (0 + (i : Int)) - -1).toNat = d + 1 - i := by omega
      rw [en2]
      refine for_down (n := d + 1 - i) (fun j σ H3 => (∃ v3, σ = [some (.int d), some (.int k), some (.ref so), some (.int (0 + i)), v3, none, none, none, none]) ∧ Same H H3 ∧ Grow H3 so ((ptsTo d i ++ rowP d i j).map pt)) ⟨⟨v3, rfl⟩, s2, by simpa [rowP] using g2⟩ ?_ ?_
      · rintro j σ H3 hj ⟨⟨v3, rfl⟩, s3, vs, hl3, hvs⟩
        refine ⟨_, rfl, .inl ⟨rfl, _, SqL.of hl3⟩, _, rfl, _, rfl, (by show 2 ≤ sizeLine; decide), fun t H4 nt s4 ht4 => ?_⟩
        have hln := ptsTo_len d i (by omega) (by omega)
        refine ⟨so, vs, _, rfl, rfl, s4 _ _ hl3, small1000 (by rw [hvs.length, List.length_map, List.length_append, rowP_length]; omega), ⟨_, rfl⟩, (s3.trans s4).put nso, ?_⟩
        rw [rowP_succ, ← List.append_assoc, List.map_append]
        refine grow_add (hvs.mono (hid_mono s4)) (is_pt (p := ((i : Int), (d : Int) - (i : Int) - (j : Int))) ?_)
        rw [hid_at (ne_of_none hl3 nt).symm, ht4, Int.zero_add]
      · rintro σ H3 ⟨⟨v3, rfl⟩, s3, g3⟩
        rw [← ptsTo_succ] at g3
        exact ⟨⟨_, _, rfl⟩, s3, g3⟩
    rintro σ H1 ⟨⟨x3, x4, rfl⟩, s1, g1⟩
    have hso : Is H1 (.l ((ptsOf d).map pt)) (.ref so) := g1.is
    clear g1
    generalize ptsOf d = row at hso gl plen sm kk
    obtain ⟨_, svs, e, hsv, hsi⟩ := of_l hso
    cases e
    have slen : svs.length = row.length := by rw [hsi.length, List.length_map]
    refine ⟨_, rfl, 1, rfl, so, _, rfl, SqL.of hsv, ?_⟩
    rw [cut_1]
    intro l1 n1
    have s2 : Same H1 (upd H1 l1 (.lst (svs.take 1))) := Same.new n1
    have h2 : (upd H1 l1 (.lst (svs.take 1))) l1 = some (.lst (svs.take 1)) := upd_same
    generalize upd H1 l1 (.lst (svs.take 1)) = H2 at s2 h2 ⊢
    refine ⟨(by show 1 ≤ sizeLine; decide), fun rw0 H3 n3 s3 h3 => ?_⟩
    have s13 := s2.trans s3
    have hso3 := hso.mono s13
    have is0 : Is H3 (.l ((lwS row k 0).map pts)) (.ref rw0) := is_l h3 (iss_cons (is_l (s3 _ _ h2) (by rw [List.map_take]; exact (hsi.take 1).mono s13)) iss_nil)
    refine ⟨_, rfl, _, _, rfl, .inl hso3, _, _, rfl, rfl, 1, _, rfl, ⟨by decide, by decide, by rw [List.length_map]; omega, by rw [List.length_map]; omega⟩, ?_⟩
    rw [show ((((row.map pt).length : Nat) : Int) - 1 - 1).toNat = row.length - 2 by rw [List.length_map]; omega]
    refine for_range (lo := 1) (n := row.length - 2) (fun i σ H4 => ∃ rw, (∃ v4 v5 v6, σ = [some (.int d), some (.int k), some (.ref so), x3, x4, some (.ref rw), v4, v5, v6]) ∧ Same H1 H4 ∧ Is H4 (.l ((lwS row k i).map pts)) (.ref rw)) ⟨rw0, ⟨none, none, none, rfl⟩, s13, is0⟩ ?_ ?_
    · rintro i σ H4 hi ⟨rw, ⟨v4, v5, v6, rfl⟩, s4, hrw⟩
      obtain ⟨_, rvs, e, hrv, hri⟩ := of_l hrw
      cases e
      have rlen : rvs.length = (lwS row k i).length := by rw [hri.length, List.length_map]
      obtain ⟨sm1, sm2⟩ := sm i (by omega)
      obtain ⟨sm3, _⟩ := sm (i + 1) (by omega)
      have nextE : lwS row k (i + 1) = (lwS row k i).flatMap fun r => [r ++ [row.getD (i + 1) zP]] ++ if (1 + (i : Int)) - (r.length : Int) < (k : Int) then [r] else [] := rfl
      generalize hG : (fun r : List Pt => [r ++ [row.getD (i + 1) zP]] ++ if (1 + (i : Int)) - (r.length : Int) < (k : Int) then [r] else []) = G at nextE
      rw [nextE] at sm3
      have at1 := at_ptD (ps := row) (j := i + 1) (by omega)
      generalize lwS row k i = S at hrw hri rlen sm1 sm2 nextE sm3
      refine ⟨Nat.zero_le _, fun mo H5 nmo s5 hmo => ?_⟩
      refine ⟨_, rfl, rw, rfl, ⟨_, SqL.of (s5 _ _ hrv)⟩, for_list (xs := rvs) (fun j σ H6 => (∃ v6, σ = [some (.int d), some (.int k), some (.ref so), x3, x4, some (.ref rw), some (.int (1 + (i : Int))), some (.ref mo), v6]) ∧ Same H4 H6 ∧ Grow H6 mo (((S.take j).flatMap G).map pts)) ⟨⟨_, rfl⟩, s5, [], hmo, iss_nil⟩ (fun j σ H6 _ h => SqL.of (h.2.1 _ _ hrv)) ?_ ?_⟩
      · rintro j y σ H6 hj ⟨⟨v6, rfl⟩, s6, vs, hmo6, hvs⟩
        obtain ⟨dd, hdd, hy⟩ := hri.of_get hj
        rw [List.getElem?_map] at hdd
        obtain ⟨r, hr', rfl⟩ := Option.map_eq_some_iff.mp hdd
        obtain ⟨ra, rws, rfl, hra, hrai⟩ := of_l hy
        have ram : ra ≠ mo := by rintro rfl; rw [hra] at nmo; cases nmo
        have r20 := sm2 r (List.mem_of_getElem? hr')
        have tk : (S.take (j + 1)).flatMap G = (S.take j).flatMap G ++ G r := by
          rw [List.take_add_one, hr', List.flatMap_append]
          simp
        have pre : ((S.take j).flatMap G).length + (G r).length ≤ 400 := by
          have : ((S.take (j + 1)).flatMap G).length ≤ (S.flatMap G).length := by
            conv => rhs; rw [← List.take_append_drop (j + 1) S]
            rw [List.flatMap_append, List.length_append]
            omega
          rw [tk, List.length_append] at this
          omega
        have vl : vs.length = ((S.take j).flatMap G).length := by rw [hvs.length, List.length_map]
        have hGr : G r = [r ++ [row.getD (i + 1) zP]] ++ if (1 + (i : Int)) - (r.length : Int) < (k : Int) then [r] else [] := by rw [← hG]
        have s16 := s4.trans s6
        have hso6 := hso.mono s16
        refine ⟨_, rfl, .inl ⟨rfl, _, SqL.of hmo6⟩, _, rfl, _, rfl, _, rfl, _, _, _, hso6, rfl, by rw [show (1 + (i : Int)) = ((i + 1 : Nat) : Int) by omega]; exact at1, fun u hu => ⟨(by show 1 ≤ sizeLine; decide), fun l7 H7 n7 s7 h7 => ?_⟩⟩
        refine ⟨_, _, (hy.mono s6).mono s7, is_l h7 (iss_cons (hu.mono s7) iss_nil), Nat.le_of_lt (small1000 (by rw [List.length_map]; show _ + 1 ≤ 1000; omega)), fun q8 H8 n8 s8 h8 => ?_⟩
        have s68 := s7.trans s8
        have hmo7 := s7 _ _ hmo6
        have hmo8 := s68 _ _ hmo6
        have g8 : Is H8 (pts (r ++ [row.getD (i + 1) zP])) (.ref q8) := by
          show Is H8 (.l ((r ++ [row.getD (i + 1) zP]).map pt)) _
          rw [List.map_append]
          exact h8
        have gr9 : Grow (upd H8 mo (.lst (vs ++ [.ref q8]))) mo ((((S.take j).flatMap G) ++ [r ++ [row.getD (i + 1) zP]]).map pts) := by
          rw [List.map_append]
          exact grow_add (hvs.mono (hid_mono s68)) (pts_hid hmo8 (ne_of_none hmo7 n8).symm g8)
        have s9 : Same H4 (upd H8 mo (.lst (vs ++ [.ref q8]))) := (s6.trans s68).put nmo
        refine ⟨mo, vs, _, rfl, rfl, hmo8, small1000 (by rw [vl]; omega), ?_⟩
        have hmo9 : upd H8 mo (.lst (vs ++ [.ref q8])) mo = some (.lst (vs ++ [.ref q8])) := upd_same
        generalize upd H8 mo (.lst (vs ++ [.ref q8])) = H9 at gr9 s9 hmo9 ⊢
        have hy9 : Is H9 (pts r) (.ref ra) := hy.mono s9
        refine ⟨_, rfl, _, rfl, _, _, rfl, .inl hy9, _, _, rfl, rfl, _, rfl, _, _, rfl, rfl, _, rfl, ?_⟩
        rw [List.length_map]
        refine iteD (fun c => ?_) (fun c => ?_)
        · rw [if_pos c] at hGr
          obtain ⟨vs9, hmo9', hvs9⟩ := gr9
          refine ⟨_, rfl, .inl ⟨rfl, _, SqL.of hmo9'⟩, _, rfl, mo, vs9, _, rfl, rfl, hmo9', small1000 (by rw [hvs9.length, List.length_map, List.length_append]; show _ + 1 ≤ 1000; omega), ⟨_, rfl⟩, s9.put nmo, ?_⟩
          rw [tk, hGr, ← List.append_assoc, List.map_append]
          exact grow_add hvs9 (pts_hid hmo9' ram hy9)
        · rw [if_neg c] at hGr
          rw [tk, hGr, List.append_nil]
          exact ⟨⟨_, rfl⟩, s9, gr9⟩
      · rintro σ H6 ⟨⟨v6, rfl⟩, s6, g6⟩
        rw [rlen, List.take_length, ← nextE] at g6
        exact ⟨_, rfl, mo, ⟨_, _, _, rfl⟩, s4.trans s6, g6.is⟩
    · rintro σ H4 ⟨rw, ⟨v4, v5, v6, rfl⟩, s4, hrw⟩
      obtain ⟨_, rvs, e, hrv, hri⟩ := of_l hrw
      cases e
      have rlen : rvs.length = (lwS row k (row.length - 2)).length := by rw [hri.length, List.length_map]
      obtain ⟨sm1, sm2⟩ := sm (row.length - 2) (Nat.le_refl _)
      generalize lwS row k (row.length - 2) = S at hrw hri rlen sm1 sm2 kk
      refine ⟨_, rfl, rw, rfl, ⟨_, SqL.of hrv⟩, fun acc na => ?_⟩
      refine comp_list (xs := rvs) (own := 1) (js := [1, 2]) (fun j H5 => Same H4 H5 ∧ Grow H5 acc ((((S.take j).filter fun r => decide ((r.length : Int) + 1 = (row.length : Int) - (k : Int))).map fun r => r ++ [pl d]).map pts)) ⟨Same.new na, Grow.start⟩ (fun j H5 _ h => SqL.of (h.1 _ _ hrv)) ?_ ?_ mono_name ?_ ?_
      · rintro j y H5 hj ⟨s5, vs, hacc, hvs⟩
        obtain ⟨dd, hdd, hy⟩ := hri.of_get hj
        rw [List.getElem?_map] at hdd
        obtain ⟨r, hr', rfl⟩ := Option.map_eq_some_iff.mp hdd
        have r20 := sm2 r (List.mem_of_getElem? hr')
        have hy5 : Is H5 (pts r) y := hy.mono s5
        have hso5 := hso.mono (s4.trans s5)
        have vl : vs.length ≤ 400 := by
          rw [hvs.length, List.length_map, List.length_map]
          refine Nat.le_trans (List.length_filter_le _ _) ?_
          rw [List.length_take]
          omega
        refine ⟨_, rfl, _, _, rfl, .inl hy5, _, _, rfl, rfl, _, rfl, _, _, rfl, .inl hso5, _, rfl, _, _, rfl, rfl, rfl, _, rfl, ?_⟩
        rw [List.length_map, List.length_map]
        refine iteE (fun c => ?_) (fun c => ?_)
        · refine ⟨_, rfl, _, rfl, 1, rfl, _, _, _, hso5, rfl, gl, fun u2 hu2 => ⟨(by show 1 ≤ sizeLine; decide), fun l6 H6 n6 s6 h6 => ?_⟩⟩
          refine ⟨_, _, hy5.mono s6, is_l h6 (iss_cons (hu2.mono s6) iss_nil), Nat.le_of_lt (small1000 (by rw [List.length_map]; show _ + 1 ≤ 1000; omega)), fun q7 H7 n7 s7 h7 => ?_⟩
          have s57 := s6.trans s7
          have hacc6 := s6 _ _ hacc
          refine ⟨acc, vs, _, rfl, rfl, s57 _ _ hacc, small1000 (by omega), (s5.trans s57).put na, ?_⟩
          rw [List.take_add_one, hr', List.filter_append]
          have ef : (Option.toList (some r)).filter (fun r => decide ((r.length : Int) + 1 = (row.length : Int) - (k : Int))) = [r] := by simp [c]
          rw [ef, List.map_append, List.map_append]
          refine grow_add (hvs.mono (hid_mono s57)) (pts_hid (s7 _ _ hacc6) (ne_of_none hacc6 n7).symm ?_)
          show Is H7 (.l ((r ++ [pl d]).map pt)) _
          rw [List.map_append]
          exact h7
        · refine ⟨s5, vs, hacc, ?_⟩
          rw [List.take_add_one, hr', List.filter_append]
          have ef : (Option.toList (some r)).filter (fun r => decide ((r.length : Int) + 1 = (row.length : Int) - (k : Int))) = [] := by simp [c]
          rw [ef, List.append_nil]
          exact hvs
      · rintro H5 ⟨s5, g⟩
        rw [rlen, List.take_length] at g
        exact kk acc H5 ((s1.trans s4).trans s5) ((s1.trans s4).free na) g.is
      · rintro σ H R R' k ⟨v1, e1, a1, b1, e2, e3, i1, j1, e4, e5, v2, e6, a2, b2, e7, e8, v3, e9, i2, j2, e10, e11, e12, b, e13, h⟩
        exact ⟨v1, e1, a1, b1, e2, e3, i1, j1, e4, e5, v2, e6, a2, b2, e7, e8, v3, e9, i2, j2, e10, e11, e12, b, e13, k _ _ h⟩
      · rintro σ H R R' k ⟨v1, e1, v2, e2, i1, e3, xs, i2, d, h1, e4, e5, h⟩
        refine ⟨v1, e1, v2, e2, i1, e3, xs, i2, d, h1, e4, e5, fun u hu => ?_⟩
        obtain ⟨z, h⟩ := h u hu
        refine ⟨z, fun p H2 np s2 hp => ?_⟩
        obtain ⟨a1, a2, f2, f3, f4, h⟩ := h p H2 np s2 hp
        exact ⟨a1, a2, f2, f3, f4, fun p H3 np s3 hp => k _ _ (h p H3 np s3 hp)⟩
theorem ok_whole_by_ways : FnOk P w K mg base (CX1 P w) 46 T.f_whole_by_ways T.d_whole_by_ways ["d", "k"] (spWhole T.c_NoBound) := by
  refine T.F_whole_by_ways.okx sc_whole_by_ways (fun vs H Q E h => ?_) (fun cdv A outer s H vs Q E hr h hR hp => ?_)
  · obtain ⟨_, _, rfl, _⟩ := h
    rfl
  · obtain ⟨v, u, rfl, ht, hu, kk, ke⟩ := h
    refine ⟨_, (pss_cons (ps_expr (pe_call (ok_need_narrow T) (hr.mono (by decide)) (by rfl) T.m_need_narrow T.F_need_narrow.kp T.B_need_narrow .nil hp (pa_cons (pv 0) (pa_cons (pv 1) pa_nil))))
      (pss_cons (ps_set (i := 2) sc_whole_by_ways.nd rfl (by first | exact Or.inl rfl | exact Or.inr rfl) pe_int)
      (pss_cons (PS.quiet (ps_for PassesOwn.never rfl (pi_list (pe_call (ok_ways T) (hr.mono (by decide)) (by rfl) T.m_ways T.F_ways.kp T.B_ways .nil passE0 (pa_cons (pv 0) (pa_cons (pv 1) pa_nil)))) (pg_name (i := 3) sc_whole_by_ways.nd rfl (by first | exact Or.inl rfl | exact Or.inr rfl)) (pss_one (ps_for PassesOwn.never rfl (pi_list (pe_call (ok_cuttings T) (hr.mono (by decide)) (by rfl) T.m_cuttings T.F_cuttings.kp T.B_cuttings .nil passE0 (pa_cons (pv 0) (pa_cons (pv 3) pa_nil)))) (pg_name (i := 4) sc_whole_by_ways.nd rfl (by first | exact Or.inl rfl | exact Or.inr rfl)) (pss_one (ps_if (pt_cmpR op_eq (pe_call (ok_cut_parts T) (hr.mono (by decide)) (by rfl) T.m_cut_parts T.F_cut_parts.kp T.B_cut_parts .nil pass0 (pa_cons (pv 4) pa_nil)) pe_int (nomark _)) (pss_one (ps_aug (i := 2) sc_whole_by_ways.nd rfl (by first | exact Or.inl rfl | exact Or.inr rfl) (pe_call (ok_cut_worth T) (hr.mono (by decide)) (by rfl) T.m_cut_worth T.F_cut_worth.kp T.B_cut_worth .nil pass0 (pa_cons (pv 4) pa_nil)) ip_add)) pss_nil))))))
      (pss_one (ps_ret (pv 2)))))), ?_⟩
    refine ⟨_, rfl, _, rfl, v, u, rfl, ht, hu, fun ⟨d, k, ev, eu, hN⟩ => ?_, ke⟩
    subst ev eu
    have kk := kk d k rfl rfl hN
    clear ke ht hu
    have d1 : 1 ≤ d := hN.1
    have d4 : d ≤ 4 := by unfold Narrow at hN; omega
    refine ⟨_, rfl, _, rfl, .int d, .int k, rfl, .inl ⟨_, rfl⟩, .inl ⟨_, rfl⟩, fun d' k' e1 e2 _ l H3 s3 nl hl => ?_, fun hn => absurd ⟨d, k, rfl, rfl, hN⟩ hn⟩
    obtain rfl : d = d' := by have := V.int.inj e1; omega
    obtain rfl : k = k' := by have := V.int.inj e2; omega
    clear e1 e2
    have hpm := (c16 hN).1
    have hg : ∀ w ∈ sW d k, okP d w = true ∧ ∀ cs ∈ rawC d w, Cut cs := fun w hw => by
      have g := g26 hN (hpm.mem_iff.mpr hw)
      exact ⟨g.1, fun cs hc => (g.2 cs hc).1⟩
    rw [show totC d (lwF d k) = totC d (sW d k) from sum_perm (totW d) hpm] at kk
    generalize sW d k = S at hl hg kk
    obtain ⟨_, lvs, e, hl3, hli⟩ := of_l hl
    cases e
    have llen : lvs.length = S.length := by rw [hli.length, List.length_map]
    refine ⟨l, rfl, ⟨_, SqL.of hl3⟩, for_list (xs := lvs) (fun j σ H4 => (∃ v3 v4, σ = [some (.int d), some (.int k), some (.int (totC d (S.take j))), v3, v4]) ∧ Same H3 H4) ⟨⟨none, none, rfl⟩, Same.refl _⟩ (fun j σ H4 _ h => SqL.of (h.2 _ _ hl3)) ?_ ?_⟩
    · rintro j y σ H4 hj ⟨⟨v3, v4, rfl⟩, s4⟩
      obtain ⟨dd, hdd, hy⟩ := hli.of_get hj
      rw [List.getElem?_map] at hdd
      obtain ⟨ps, hx', rfl⟩ := Option.map_eq_some_iff.mp hdd
      obtain ⟨ok, hcs⟩ := hg ps (List.mem_of_getElem? hx')
      have hs : totC d (S.take (j + 1)) = totC d (S.take j) + totW d ps := sum_next (totW d) hx'
      refine ⟨_, rfl, _, rfl, .int d, y, rfl, .inl ⟨_, rfl⟩, fun n en _ _ => ?_, fun hx => absurd ⟨_, rfl, by omega, by omega⟩ hx⟩
      obtain rfl : n = d := by have := V.int.inj en; omega
      refine ⟨ps, hy.mono s4, ok, fun L lc H5 pL s5 nlc hL => ?_⟩
      have hL := hL.mono nw_same
      have hcs : ∀ cs ∈ L, Cut cs := fun cs hc => hcs cs (pL.mem_iff.mp hc)
      have hs : totC n (S.take (j + 1)) = totC n (S.take j) + (L.map wrthF).sum := by
        rw [hs, sum_perm wrthF pL]
        rfl
      rw [hs]
      obtain ⟨_, cvs, e, hc5, hci⟩ := of_l hL
      cases e
      have clen : cvs.length = L.length := by rw [hci.length, List.length_map]
      refine ⟨lc, rfl, ⟨_, SqL.of hc5⟩, for_list (xs := cvs) (fun i σ H6 => (∃ v4, σ = [some (.int n), some (.int k), some (.int (totC n (S.take j) + ((L.take i).map wrthF).sum)), some y, v4]) ∧ Same H5 H6) ⟨⟨v4, by simp⟩, Same.refl _⟩ (fun i σ H6 _ h => SqL.of (h.2 _ _ hc5)) ?_ ?_⟩
      · rintro i z σ H6 hi ⟨⟨v4, rfl⟩, s6⟩
        obtain ⟨dd, hdd, hz⟩ := hci.of_get hi
        rw [List.getElem?_map] at hdd
        obtain ⟨cs, hcx, rfl⟩ := Option.map_eq_some_iff.mp hdd
        have hC := hcs cs (List.mem_of_getElem? hcx)
        rw [sum_next wrthF hcx]
        refine ⟨_, rfl, z, cs, rfl, hz.mono s6, hC, fun H7 s7 => ⟨rfl, _, rfl, iteE (fun e => ?_) (fun e => ?_)⟩⟩
        · rw [show wrthF cs = prodC cs from if_pos (by have e : (parF cs : Int) = 1 := e; omega)]
          refine ⟨_, rfl, _, rfl, z, cs, rfl, (hz.mono s6).mono s7, hC.1, _, _, rfl, rfl, ⟨some z, ?_⟩, s6.trans s7⟩
          rw [← Int.add_assoc]
          rfl
        · rw [show wrthF cs = 0 from if_neg (by have e : ¬ (parF cs : Int) = 1 := e; omega), Int.add_zero]
          exact ⟨⟨some z, rfl⟩, s6.trans s7⟩
      · rintro σ H6 ⟨⟨v4, rfl⟩, s6⟩
        rw [clen, List.take_length]
        exact ⟨⟨_, _, rfl⟩, (s4.trans s5).trans s6⟩
    · rintro σ H4 ⟨⟨v3, v4, rfl⟩, s4⟩
      rw [llen, List.take_length]
      exact ⟨_, rfl, kk H4 (s3.trans s4)⟩
theorem ok__law_due : FnOk P w K mg base CX0 36 T.f__law_due T.d__law_due ["_law_d", "_law_k"] (spLDue K) := by
  refine T.F__law_due.ok sc__law_due (fun vs H Q E h => ?_) (fun cdv A outer s H vs Q E hr h => ?_)
  · obtain ⟨_, _, rfl, _⟩ := h
    rfl
  · obtain ⟨d, k, rfl, hN, d3, kk⟩ := h
    refine ⟨_, (pss_cons (ps_set (i := 2) sc__law_due.nd rfl (by first | exact Or.inl rfl | exact Or.inr rfl) pe_int)
      (pss_cons (ps_for PassesOwn.never rfl (pi_list (pe_call (ok__law_ways T) (hr.mono (by decide)) (by rfl) T.m__law_ways T.F__law_ways.kp T.B__law_ways .nil pass0 (pa_cons (pv 0) (pa_cons (pv 1) pa_nil)))) (pg_name (i := 3) sc__law_due.nd rfl (by first | exact Or.inl rfl | exact Or.inr rfl)) (pss_one (ps_for PassesOwn.never rfl (pi_list (pe_call (ok_cuttings T) (hr.mono (by decide)) (by rfl) T.m_cuttings T.F_cuttings.kp T.B_cuttings .nil passE0 (pa_cons (pv 0) (pa_cons (pv 3) pa_nil)))) (pg_name (i := 4) sc__law_due.nd rfl (by first | exact Or.inl rfl | exact Or.inr rfl)) (pss_one (ps_if (pt_cmpR op_eq (pe_call (ok__law_parts T) (hr.mono (by decide)) (by rfl) T.m__law_parts T.F__law_parts.kp T.B__law_parts .nil pass0 (pa_cons (pv 4) (pa_cons (pe_call (ok__law_joined T) (hr.mono (by decide)) (by rfl) T.m__law_joined T.F__law_joined.kp T.B__law_joined .nil pass0 (pa_cons (pv 4) pa_nil)) pa_nil))) pe_int (nomark _)) (pss_one (ps_set (i := 2) sc__law_due.nd rfl (by first | exact Or.inl rfl | exact Or.inr rfl) (pe_op op_add (pv 2) (pe_call (ok__law_product T) (hr.mono (by decide)) (by rfl) T.m__law_product T.F__law_product.kp T.B__law_product .nil pass0 (pa_cons (pv 4) pa_nil))))) pss_nil)))))
      (pss_one (ps_ret (pv 2))))), ?_⟩
    have d1 : 1 ≤ d := hN.1
    refine ⟨_, rfl, _, rfl, d, k, rfl, hN, fun l H3 s3 nl hl => ?_⟩
    have hg : ∀ w ∈ lwF d k, okP d w = true ∧ ∀ cs ∈ rawC d w, Cut cs ∧ lpaF cs (ljoF cs) = parF cs := fun w hw => by
      have g := g26 hN hw
      exact ⟨g.1, fun cs hc => ⟨(g.2 cs hc).1, (g.2 cs hc).2 d3⟩⟩
    generalize lwF d k = S at hl hg kk
    obtain ⟨_, lvs, e, hl3, hli⟩ := of_l hl
    cases e
    have llen : lvs.length = S.length := by rw [hli.length, List.length_map]
    refine ⟨l, rfl, ⟨_, SqL.of hl3⟩, for_list (xs := lvs) (fun j σ H4 => (∃ v3 v4, σ = [some (.int d), some (.int k), some (.int (totC d (S.take j))), v3, v4]) ∧ Same H3 H4) ⟨⟨none, none, rfl⟩, Same.refl _⟩ (fun j σ H4 _ h => SqL.of (h.2 _ _ hl3)) ?_ ?_⟩
    · rintro j y σ H4 hj ⟨⟨v3, v4, rfl⟩, s4⟩
      obtain ⟨dd, hdd, hy⟩ := hli.of_get hj
      rw [List.getElem?_map] at hdd
      obtain ⟨ps, hx', rfl⟩ := Option.map_eq_some_iff.mp hdd
      obtain ⟨ok, hcs⟩ := hg ps (List.mem_of_getElem? hx')
      have hs : totC d (S.take (j + 1)) = totC d (S.take j) + totW d ps := sum_next (totW d) hx'
      refine ⟨_, rfl, _, rfl, .int d, y, rfl, .inl ⟨_, rfl⟩, fun n en _ _ => ?_, fun hx => absurd ⟨_, rfl, by omega, by omega⟩ hx⟩
      obtain rfl : n = d := by have := V.int.inj en; omega
      refine ⟨ps, hy.mono s4, ok, fun L lc H5 pL s5 nlc hL => ?_⟩
      have hL := hL.mono nw_same
      have hcs : ∀ cs ∈ L, Cut cs ∧ lpaF cs (ljoF cs) = parF cs := fun cs hc => hcs cs (pL.mem_iff.mp hc)
      have hs : totC n (S.take (j + 1)) = totC n (S.take j) + (L.map wrthF).sum := by
        rw [hs, sum_perm wrthF pL]
        rfl
      rw [hs]
      obtain ⟨_, cvs, e, hc5, hci⟩ := of_l hL
      cases e
      have clen : cvs.length = L.length := by rw [hci.length, List.length_map]
      refine ⟨lc, rfl, ⟨_, SqL.of hc5⟩, for_list (xs := cvs) (fun i σ H6 => (∃ v4, σ = [some (.int n), some (.int k), some (.int (totC n (S.take j) + ((L.take i).map wrthF).sum)), some y, v4]) ∧ Same H5 H6) ⟨⟨v4, by simp⟩, Same.refl _⟩ (fun i σ H6 _ h => SqL.of (h.2 _ _ hc5)) ?_ ?_⟩
      · rintro i z σ H6 hi ⟨⟨v4, rfl⟩, s6⟩
        obtain ⟨dd, hdd, hz⟩ := hci.of_get hi
        rw [List.getElem?_map] at hdd
        obtain ⟨cs, hcx, rfl⟩ := Option.map_eq_some_iff.mp hdd
        obtain ⟨hC, hP⟩ := hcs cs (List.mem_of_getElem? hcx)
        rw [sum_next wrthF hcx]
        have hz6 := hz.mono s6
        refine ⟨_, rfl, _, rfl, z, cs, rfl, hz6, hC, fun lj H7 s7 nlj hlj => ⟨z, .ref lj, cs, ljoF cs, rfl, hz6.mono s7, hlj, hC, ljo_in, fun H8 s8 => ⟨rfl, _, rfl, iteE (fun e => ?_) (fun e => ?_)⟩⟩⟩
        · rw [show wrthF cs = prodC cs from if_pos (by omega)]
          refine ⟨_, rfl, _, rfl, z, cs, rfl, (hz6.mono s7).mono s8, hC.1, _, _, rfl, rfl, ⟨some z, ?_⟩, (s6.trans s7).trans s8⟩
          rw [← Int.add_assoc]
          rfl
        · rw [show wrthF cs = 0 from if_neg (by omega), Int.add_zero]
          exact ⟨⟨some z, rfl⟩, (s6.trans s7).trans s8⟩
      · rintro σ H6 ⟨⟨v4, rfl⟩, s6⟩
        rw [clen, List.take_length]
        exact ⟨⟨_, _, rfl⟩, (s4.trans s5).trans s6⟩
    · rintro σ H4 ⟨⟨v3, v4, rfl⟩, s4⟩
      rw [llen, List.take_length]
      exact ⟨_, rfl, kk H4 (s3.trans s4)⟩
theorem ok__law_refused : FnOk P w K mg base CX0 47 T.f__law_refused T.d__law_refused ["_law_d", "_law_k"] (spLRef K) := by
  refine T.F__law_refused.oky sc__law_refused (fun vs H Q E h => ?_) (fun cdv A outer s H vs Q E hr h hF => ?_)
  · obtain ⟨_, _, rfl, _⟩ := h
    rfl
  · obtain ⟨v, u, rfl, ht, hu, hn, kk⟩ := h
    refine ⟨_, (pss_cons (ps_try (i := 2) hF rfl sc__law_refused.nd rfl (by first | exact Or.inl rfl | exact Or.inr rfl) rfl (by rfl) T.m_NoBound (fun E pn z hp => (pss_one (ps_expr (pe_call (ok_whole_by_ways T) (hr.mono (by decide)) (by rfl) T.m_whole_by_ways T.F_whole_by_ways.kp T.B_whole_by_ways .nil hp (pa_cons (pv 0) (pa_cons (pv 1) pa_nil)))))) (fun e => (pss_one (ps_ret (pe_callB (call_isxK (K := K) rfl) (by rfl) T.n_isinstance boot_isinstance (pa_cons (pv 2) (pa_cons (pe_bltn (v := .ty "ValueError") (by rfl) T.n_ValueError PyProof.Rows.Boot.«ValueError» (by rfl)) pa_nil)))))))
      (pss_one (ps_ret pe_bl))), ?_⟩
    refine ⟨fun C _ H' => C = .ref T.c_NoBound ∧ Same H H', ⟨_, rfl, _, rfl, v, u, rfl, ht, hu, fun d k e1 e2 e3 => absurd ⟨d, k, e1, e2, e3⟩ hn, fun _ => ⟨rfl, Same.refl H⟩⟩, fun C e H' ⟨eC, sH⟩ he => ?_⟩
    cases eC
    exact ⟨T.e_NoBound_NoBound, _, rfl, e, _, .ty "ValueError", _, true, rfl, upd_same, T.X_NoBound, rfl, T.k_NoBound_ValueError, kk _ (sH.trans (Same.new he))⟩
def rowD (a n : Nat) : List (List Int) := (List.range n).map fun b : Nat => [(a : Int), (b : Int)]
def preD (i : Nat) : List (List Int) := (List.range i).flatMap fun a => rowD (a + 1) 7
theorem rowD_succ (a n : Nat) : rowD a (n + 1) = rowD a n ++ [[(a : Int), (n : Int)]] := by unfold rowD; rw [List.range_succ, List.map_append]; rfl
theorem preD_succ (i : Nat) : preD (i + 1) = preD i ++ rowD (i + 1) 7 := by unfold preD; rw [List.range_succ, List.flatMap_append]; simp
theorem rowD_len (a n : Nat) : (rowD a n).length = n := by unfold rowD; simp
theorem preD_len (i : Nat) : (preD i).length = 7 * i := by
  induction i with
  | zero => rfl
  | succ i ih => rw [preD_succ, List.length_append, ih, rowD_len]; omega
def Prs (H : Hp) (l : Addr) (xs : List (List Int)) : Prop := ∃ vs, H l = some (.lst vs) ∧ Iss H (xs.map tI) vs
theorem Prs.add {H H2 : Hp} {l t : Addr} {xs : List (List Int)} {x : List Int} (g : Prs H l xs) (s : Same H H2) (nt : H t = none) (ht : H2 t = some (.tup (x.map V.int))) : ∃ vs, H2 l = some (.lst vs) ∧ vs.length = xs.length ∧ Prs (upd H2 l (.lst (vs ++ [.ref t]))) l (xs ++ [x]) := by
  obtain ⟨vs, hl, hi⟩ := g
  have tl : t ≠ l := by rintro rfl; rw [hl] at nt; cases nt
  refine ⟨vs, s _ _ hl, by rw [hi.length, List.length_map], _, upd_same, ?_⟩
  rw [List.map_append]
  refine Iss.append ?_ (iss_cons (is_tI (by rw [upd_ne tl]; exact ht)) iss_nil)
  have go : ∀ {xs : List (List Int)} {vs : List V}, Iss H (xs.map tI) vs → Iss (upd H2 l (.lst (vs ++ [.ref t]))) (xs.map tI) vs → True := fun _ _ => trivial
  have mono : ∀ {ys : List (List Int)} {us : List V} {H' : Hp}, (∀ b zs, H b = some (.tup zs) → H' b = some (.tup zs)) → Iss H (ys.map tI) us → Iss H' (ys.map tI) us := by
    intro ys
    induction ys with
    | nil => intro us H' _ h; rw [of_nil h]; exact iss_nil
    | cons y ys ih =>
      intro us H' k h
      obtain ⟨u, us, rfl, q, r⟩ := of_cons h
      obtain ⟨a, rfl, ha⟩ := of_tI q
      exact iss_cons (is_tI (k _ _ ha)) (ih k r)
  exact mono (fun b zs e => by rw [upd_ne (by rintro rfl; rw [hl] at e; cases e)]; exact s _ _ e) hi
def nT2 : List (Nat × Nat) := [(4, 0), (4, 1), (4, 2), (1, 0), (1, 1), (1, 2), (1, 3), (1, 4), (1, 5), (1, 6), (2, 0), (2, 1), (2, 2), (2, 3), (2, 4), (2, 5), (2, 6), (3, 0), (3, 1), (3, 2), (3, 3), (3, 4), (3, 5), (3, 6)]
theorem pair_tab : rowD 4 3 ++ preD 3 = nT2.map fun x => [(x.1 : Int), (x.2 : Int)] := by decide
theorem nT2_nar : ∀ x ∈ nT2, Narrow x.1 x.2 := by
  unfold Narrow
  decide
theorem log_small {d : Nat} (h : d ≤ 4) : ((d : Int)).natAbs.log2 < 1920 := by
  have : d = 0 ∨ d = 1 ∨ d = 2 ∨ d = 3 ∨ d = 4 := by omega
  rcases this with rfl | rfl | rfl | rfl | rfl <;> decide
theorem ok_law : FnOk P w K mg base CX0 48 T.f_law T.d_law ["_law_script"] (sp_law K) := by
  refine T.F_law.ok sc_law (fun vs H Q E h => ?_) (fun cdv A outer s H vs Q E hr h => ?_)
  · obtain ⟨_, _, rfl, _⟩ := h
    rfl
  · obtain ⟨a, ns, rfl, hS, hl, kk⟩ := h
    refine ⟨_, (pss_cons (ps_set (i := 1) sc_law.nd rfl (by first | exact Or.inl rfl | exact Or.inr rfl) (pe_lstN (pa_cons (pe_tupN (pa_cons pe_int (pa_cons pe_int pa_nil))) (pa_cons (pe_tupN (pa_cons pe_int (pa_cons pe_int pa_nil))) (pa_cons (pe_tupN (pa_cons pe_int (pa_cons pe_int pa_nil))) pa_nil)))))
      (pss_cons (ps_for PassesOwn.never rfl (pi_range2 (by rfl) T.n_range (pa_cons pe_int (pa_cons pe_int pa_nil))) (pg_name (i := 2) sc_law.nd rfl (by first | exact Or.inl rfl | exact Or.inr rfl)) (pss_one (ps_for PassesOwn.never rfl (pi_range1 (by rfl) T.n_range (pa_cons pe_int pa_nil)) (pg_name (i := 3) sc_law.nd rfl (by first | exact Or.inl rfl | exact Or.inr rfl)) (pss_one (ps_expr (pe_bm PySem.F.plainAttrs_list PySem.F.slot_list_append PySem.F.type_list_append mt_append (pv 1) (pa_cons (pe_tupN (pa_cons (pv 2) (pa_cons (pv 3) pa_nil))) pa_nil)))))))
      (pss_cons (ps_asg (pe_ix ix_listN (pv 1) (pe_op op_mod (pe_call (ok__law_number T) (hr.mono (by decide)) (by rfl) T.m__law_number T.F__law_number.kp T.B__law_number .nil pass0 (pa_cons (pv 0) (pa_cons pe_int pa_nil))) pe_int) (fun _ _ => rfl)) (pg_tup rfl (pgs_cons (pg_name (i := 2) sc_law.nd rfl (by first | exact Or.inl rfl | exact Or.inr rfl)) (pgs_cons (pg_name (i := 3) sc_law.nd rfl (by first | exact Or.inl rfl | exact Or.inr rfl)) pgs_nil))))
      (pss_cons (ps_set (i := 4) sc_law.nd rfl (by first | exact Or.inl rfl | exact Or.inr rfl) (pe_call (ok_whole_by_ways T) (hr.mono (by decide)) (by rfl) T.m_whole_by_ways T.F_whole_by_ways.kp T.B_whole_by_ways .nil passE0 (pa_cons (pv 2) (pa_cons (pv 3) pa_nil))))
      (pss_cons (ps_if (pw_or (pt_not (pt_val (pe_callB call_isi (by rfl) T.n_isinstance boot_isinstance (pa_cons (pv 4) (pa_cons (pe_bltn (v := .ty "int") (by rfl) T.n_int boot_int (by rfl)) pa_nil))))) (pw_or1 (pt_val (pe_callB call_isi (by rfl) T.n_isinstance boot_isinstance (pa_cons (pv 4) (pa_cons (pe_bltn (v := .ty "bool") (by rfl) T.n_bool boot_bool (by rfl)) pa_nil)))))).pt (pss_one (ps_ret pe_bl)) pss_nil)
      (pss_cons (ps_set (i := 5) sc_law.nd rfl (by first | exact Or.inl rfl | exact Or.inr rfl) (pe_call (ok__law_number T) (hr.mono (by decide)) (by rfl) T.m__law_number T.F__law_number.kp T.B__law_number .nil pass0 (pa_cons (pv 0) (pa_cons pe_int pa_nil))))
      (pss_cons (ps_set (i := 6) sc_law.nd rfl (by first | exact Or.inl rfl | exact Or.inr rfl) (pe_lstN (pa_cons (pe_tupN (pa_cons pe_int (pa_cons (pe_op op_add pe_int (pe_op op_mod (pv 5) pe_int)) pa_nil))) (pa_cons (pe_tupN (pa_cons pe_int (pa_cons (pe_op op_mod (pv 5) pe_int) pa_nil))) (pa_cons (pe_tupN (pa_cons pe_int (pa_cons pe_int pa_nil))) (pa_cons (pe_tupN (pa_cons (pv 2) (pa_cons (pe_op op_add pe_int (pe_op op_mod (pv 5) (pe_op op_pow pe_int pe_int))) pa_nil))) (pa_cons (pe_tupN (pa_cons (pv 2) (pa_cons (pe_op op_sub (pe_un un_neg pe_int) (pe_op op_mod (pv 5) pe_int)) pa_nil))) pa_nil)))))))
      (pss_cons (ps_set (i := 6) sc_law.nd rfl (by first | exact Or.inl rfl | exact Or.inr rfl) (pe_op op_cat (pv 6) (pe_lstN (pa_cons (pe_tupN (pa_cons pe_bl (pa_cons pe_int pa_nil))) (pa_cons (pe_tupN (pa_cons (pv 2) (pa_cons pe_non pa_nil))) (pa_cons (pe_tupN (pa_cons (pe_callTy call_str_int (by rfl) T.n_str boot_str (pa_cons (pv 2) pa_nil)) (pa_cons pe_int pa_nil))) pa_nil))))))
      (pss_cons (ps_asg (pe_ix ix_list (pv 6) (pe_op op_mod (pe_call (ok__law_number T) (hr.mono (by decide)) (by rfl) T.m__law_number T.F__law_number.kp T.B__law_number .nil pass0 (pa_cons (pv 0) (pa_cons pe_int pa_nil))) pe_int) (fun _ _ => rfl)) (pg_tup rfl (pgs_cons (pg_name (i := 7) sc_law.nd rfl (by first | exact Or.inl rfl | exact Or.inr rfl)) (pgs_cons (pg_name (i := 8) sc_law.nd rfl (by first | exact Or.inl rfl | exact Or.inr rfl)) pgs_nil))))
      (pss_cons (ps_if (pt_not (pt_val (pe_call (ok__law_refused T) (hr.mono (by decide)) (by rfl) T.m__law_refused T.F__law_refused.kp T.B__law_refused .nil pass0 (pa_cons (pv 7) (pa_cons (pv 8) pa_nil))))) (pss_one (ps_ret pe_bl)) pss_nil)
      (pss_cons (ps_if (pt_cmpR op_eq (pv 2) pe_int (nomark _)) (pss_one (ps_ret (pe_cmpR op_eq (pv 4) (pe_ix ix_list (pe_lstN (pa_cons pe_int (pa_cons pe_int (pa_cons pe_int pa_nil)))) (pv 3) (fun _ _ => rfl)) (nomark _)))) pss_nil)
      (pss_one (ps_ret (pe_cmpR op_eq (pv 4) (pe_call (ok__law_due T) (hr.mono (by decide)) (by rfl) T.m__law_due T.F__law_due.kp T.B__law_due .nil pass0 (pa_cons (pv 2) (pa_cons (pv 3) pa_nil))) (nomark _))))))))))))))), ?_⟩
    refine ⟨(by show 2 ≤ sizeLine; decide), fun t1 H1 n1 s1 h1 => ⟨(by show 2 ≤ sizeLine; decide), fun t2 H2 n2 s2 h2 => ⟨(by show 2 ≤ sizeLine; decide), fun t3 H3 n3 s3 h3 => ⟨(by show 3 ≤ sizeLine; decide), fun l H4 nl s4 hl4 => ?_⟩⟩⟩⟩
    have s03 := (s1.trans s2).trans s3
    have nlH : H l = none := s03.free nl
    have g0 : Prs H4 l (rowD 4 3 ++ preD 0) := ⟨_, hl4, iss_cons (is_tI (xs := [4, 0]) (((s2.trans s3).trans s4) _ _ h1)) (iss_cons (is_tI (xs := [4, 1]) ((s3.trans s4) _ _ h2)) (iss_cons (is_tI (xs := [4, 2]) (s4 _ _ h3)) iss_nil))⟩
    have s04 := s03.trans s4
    clear h1 h2 h3 hl4
    generalize H4 = H5 at g0 s04 ⊢
    refine ⟨1, _, rfl, ⟨by decide, by decide, by decide, by decide⟩, ?_⟩
    rw [show ((4 : Int) - 1).toNat = 3 from rfl]
    refine for_range (lo := 1) (n := 3) (fun i σ H2 => (∃ v2 v3, σ = [some (.ref a), some (.ref l), v2, v3, none, none, none, none, none]) ∧ Same H H2 ∧ Prs H2 l (rowD 4 3 ++ preD i)) ⟨⟨none, none, rfl⟩, s04, g0⟩ ?_ ?_
    · rintro i σ H2 hi ⟨⟨v2, v3, rfl⟩, s2, g2⟩
      rw [show (1 : Int) + (i : Int) = ((i + 1 : Nat) : Int) by omega]
      refine ⟨7, rfl, by decide, by decide, for_range (lo := 0) (n := 7) (fun j σ H3 => (∃ v3, σ = [some (.ref a), some (.ref l), some (.int ((i + 1 : Nat) : Int)), v3, none, none, none, none, none]) ∧ Same H H3 ∧ Prs H3 l (rowD 4 3 ++ preD i ++ rowD (i + 1) j)) ⟨⟨_, rfl⟩, s2, by simpa [rowD] using g2⟩ ?_ ?_⟩
      · rintro j σ H3 hj ⟨⟨v3, rfl⟩, s3, g3⟩
        obtain ⟨vs0, hl0, _⟩ := id g3
        rw [show (0 : Int) + (j : Int) = (j : Int) by omega]
        refine ⟨_, rfl, .inl ⟨rfl, _, SqL.of hl0⟩, _, rfl, _, rfl, (by show 2 ≤ sizeLine; decide), fun t H4 nt s4 ht => ?_⟩
        obtain ⟨vs, hl4, hvl, g4⟩ := g3.add s4 nt (x := [((i + 1 : Nat) : Int), (j : Int)]) ht
        refine ⟨l, vs, _, rfl, rfl, hl4, small1000 (by rw [hvl, List.length_append, List.length_append, preD_len, rowD_len, rowD_len]; omega), ⟨_, rfl⟩, (s3.trans s4).put nlH, ?_⟩
        rw [rowD_succ (i + 1) j, ← List.append_assoc]
        exact g4
      · rintro σ H3 ⟨⟨v3, rfl⟩, s3, g3⟩
        rw [List.append_assoc, ← preD_succ] at g3
        exact ⟨⟨_, _, rfl⟩, s3, g3⟩
    · rintro σ H3 ⟨⟨v2, v3, rfl⟩, s3, vs, hl3, hi3⟩
      rw [pair_tab] at hi3
      have hL : Is H3 (.l ((nT2.map fun x => [(x.1 : Int), (x.2 : Int)]).map tI)) (.ref l) := is_l hl3 hi3
      refine ⟨_, rfl, _, rfl, a, ns, 0, rfl, s3.seq hS, by decide, by decide, fun z hz => ⟨_, _, rfl, rfl, (show (0 : Int) < 24 by decide), ?_⟩⟩
      have z0 : 0 ≤ z % 24 := Int.emod_nonneg _ (by decide)
      have z1 : z % 24 < 24 := Int.emod_lt_of_pos _ (by decide)
      obtain ⟨m, hm⟩ := Int.eq_ofNat_of_zero_le z0
      have hml : m < nT2.length := by show m < 24; omega
      have hat : atI ((nT2.map fun x => [(x.1 : Int), (x.2 : Int)]).map tI) ((m : Nat) : Int) = some (tI [(nT2[m].1 : Int), (nT2[m].2 : Int)]) := atI_nat (by rw [List.getElem?_map, List.getElem?_map, List.getElem?_eq_getElem hml]; rfl)
      have hN := nT2_nar _ (List.getElem_mem hml)
      generalize nT2[m].1 = d at hat hN
      generalize nT2[m].2 = k at hat hN
      refine ⟨_, ((m : Nat) : Int), _, hL, congrArg V.int hm, hat, fun u hu => ?_⟩
      obtain ⟨t, rfl, ht⟩ := of_tI hu
      refine ⟨t, _, rfl, SqT.of ht, rfl, _, _, rfl, _, _, rfl, rfl, ?_⟩
      clear hat hL hl3 hi3 ht hu
      have d4 : d ≤ 4 := by unfold Narrow at hN; omega
      refine ⟨_, rfl, _, rfl, .int d, .int k, rfl, .inl ⟨_, rfl⟩, .inl ⟨_, rfl⟩, fun d' k' e1 e2 _ H4 s4 => ?_, fun hn => absurd ⟨d, k, rfl, rfl, hN⟩ hn⟩
      obtain rfl : d = d' := by have := V.int.inj e1; omega
      obtain rfl : k = k' := by have := V.int.inj e2; omega
      clear e1 e2
      have s4 := s3.trans s4
      refine ⟨_, rfl, _, "int", _, true, rfl, .int _, kit_same, true, rfl, iteF ⟨_, rfl, _, "bool", _, false, rfl, .int _, kit_int_bool, false, rfl, iteF ?_⟩⟩
      refine ⟨_, rfl, a, ns, 1, rfl, s4.seq hS, by decide, by decide, fun x hx => ?_⟩
      refine ⟨_, rfl, _, _, rfl, rfl, (show (0 : Int) < 4 by decide), _, _, rfl, rfl, (by show 2 ≤ sizeLine; decide), fun t1 H5 n1 s5 h1 => ?_⟩
      refine ⟨_, rfl, _, _, rfl, rfl, (show (0 : Int) < 4 by decide), (by show 2 ≤ sizeLine; decide), fun t2 H6 n2 s6 h2 => ?_⟩
      refine ⟨(by show 2 ≤ sizeLine; decide), fun t3 H7 n3 s7 h3 => ?_⟩
      refine ⟨_, rfl, _, rfl, 10, 20, rfl, rfl, ⟨by decide, by decide, by decide⟩, _, _, rfl, rfl, (show (0 : Int) < 10 ^ Int.toNat 20 by decide), _, _, rfl, rfl, (by show 2 ≤ sizeLine; decide), fun t4 H8 n4 s8 h4 => ?_⟩
      obtain ⟨q4, q40, h4⟩ : ∃ q : Int, 0 ≤ q ∧ H8 t4 = some (.tup [.int d, .int (7 + q)]) := ⟨_, Int.emod_nonneg _ (by decide), h4⟩
      refine ⟨_, rfl, 1, rfl, _, rfl, _, _, rfl, rfl, (show (0 : Int) < 9 by decide), _, _, rfl, rfl, (by show 2 ≤ sizeLine; decide), fun t5 H9 n5 s9 h5 => ?_⟩
      refine ⟨(by show 5 ≤ sizeLine; decide), fun lb H10 nb s10 hb => ?_⟩
      refine ⟨_, rfl, (by show 2 ≤ sizeLine; decide), fun t6 H11 n6 s11 h6 => ?_⟩
      refine ⟨_, rfl, (by show 2 ≤ sizeLine; decide), fun t7 H12 n7 s12 h7 => ?_⟩
      refine ⟨_, rfl, d, rfl, log_small d4, (by show 2 ≤ sizeLine; decide), fun t8 H13 n8 s13 h8 => ?_⟩
      refine ⟨(by show 3 ≤ sizeLine; decide), fun lc H14 nc s14 hc => ?_⟩
      have s1014 := ((s11.trans s12).trans s13).trans s14
      refine ⟨lb, lc, _, _, rfl, rfl, s1014 _ _ hb, hc, (by show 5 + 3 ≤ sizeLine; decide), fun p np => ?_⟩
      have s15 : Same H14 (upd H14 p (.lst ([.ref t1, .ref t2, .ref t3, .ref t4, .ref t5] ++ [.ref t6, .ref t7, .ref t8]))) := Same.new np
      have h15 : upd H14 p (.lst ([.ref t1, .ref t2, .ref t3, .ref t4, .ref t5] ++ [.ref t6, .ref t7, .ref t8])) p = some (.lst ([.ref t1, .ref t2, .ref t3, .ref t4, .ref t5] ++ [.ref t6, .ref t7, .ref t8])) := upd_same
      generalize upd H14 p (.lst ([.ref t1, .ref t2, .ref t3, .ref t4, .ref t5] ++ [.ref t6, .ref t7, .ref t8])) = H15 at s15 h15 ⊢
      have r1 := s1014.trans s15
      have r9 := s10.trans r1
      have r8 := s9.trans r9
      have r7 := s8.trans r8
      have r6 := s7.trans r7
      have r5 := s6.trans r6
      have sF := s4.trans (s5.trans r5)
      have r13 := s14.trans s15
      have r12 := s13.trans r13
      have r11 := s12.trans r12
      have h1 := r5 _ _ h1
      have h2 := r6 _ _ h2
      have h3 := r7 _ _ h3
      have h4 := r8 _ _ h4
      have h5 := r9 _ _ h5
      have h6 := r11 _ _ h6
      have h7 := r12 _ _ h7
      have h8 := r13 _ _ h8
      refine ⟨_, rfl, _, rfl, a, ns, 2, rfl, sF.seq hS, by decide, by decide, fun y hy => ⟨_, _, rfl, rfl, (show (0 : Int) < 8 by decide), ?_⟩⟩
      have key : ∃ t v u, atI [V.ref t1, .ref t2, .ref t3, .ref t4, .ref t5, .ref t6, .ref t7, .ref t8] (y % 8) = some (.ref t) ∧ H15 t = some (.tup [v, u]) ∧ Thing H15 v ∧ Thing H15 u ∧ ¬ ∃ d k : Nat, v = .int d ∧ u = .int k ∧ Narrow d k := by
        have y0 : 0 ≤ y % 8 := Int.emod_nonneg _ (by decide)
        have y1 : y % 8 < 8 := Int.emod_lt_of_pos _ (by decide)
        generalize y % 8 = r at y0 y1
        have : r = 0 ∨ r = 1 ∨ r = 2 ∨ r = 3 ∨ r = 4 ∨ r = 5 ∨ r = 6 ∨ r = 7 := by omega
        rcases this with rfl | rfl | rfl | rfl | rfl | rfl | rfl | rfl
        · exact ⟨t1, _, _, rfl, h1, .inl ⟨_, rfl⟩, .inl ⟨_, rfl⟩, fun ⟨d', k', e1, e2, hn⟩ => by have := V.int.inj e1; have := V.int.inj e2; unfold Narrow at hn; omega⟩
        · exact ⟨t2, _, _, rfl, h2, .inl ⟨_, rfl⟩, .inl ⟨_, rfl⟩, fun ⟨d', k', e1, e2, hn⟩ => by have := V.int.inj e1; have := V.int.inj e2; unfold Narrow at hn; omega⟩
        · exact ⟨t3, _, _, rfl, h3, .inl ⟨_, rfl⟩, .inl ⟨_, rfl⟩, fun ⟨d', k', e1, e2, hn⟩ => by have := V.int.inj e1; have := V.int.inj e2; unfold Narrow at hn; omega⟩
        · exact ⟨t4, _, _, rfl, h4, .inl ⟨_, rfl⟩, .inl ⟨_, rfl⟩, fun ⟨d', k', e1, e2, hn⟩ => by have := V.int.inj e1; have := V.int.inj e2; unfold Narrow at hn; omega⟩
        · exact ⟨t5, _, _, rfl, h5, .inl ⟨_, rfl⟩, .inl ⟨_, rfl⟩, fun ⟨d', k', e1, e2, hn⟩ => by have := V.int.inj e1; have := V.int.inj e2; unfold Narrow at hn; omega⟩
        · exact ⟨t6, _, _, rfl, h6, .inr (.inl ⟨_, rfl⟩), .inl ⟨_, rfl⟩, fun ⟨d', k', e1, e2, hn⟩ => by cases e1⟩
        · exact ⟨t7, _, _, rfl, h7, .inl ⟨_, rfl⟩, .inr (.inr (.inl rfl)), fun ⟨d', k', e1, e2, hn⟩ => by cases e2⟩
        · exact ⟨t8, _, _, rfl, h8, .inr (.inr (.inr (.inl ⟨_, rfl⟩))), .inl ⟨_, rfl⟩, fun ⟨d', k', e1, e2, hn⟩ => by cases e1⟩
      clear h1 h2 h3 h4 h5 h6 h7 h8
      obtain ⟨t, v, u, hat, ht, tv, tu, nn⟩ := key
      refine ⟨p, _, _, _, rfl, rfl, SqL.of h15, hat, t, _, rfl, SqT.of ht, rfl, _, _, rfl, _, _, rfl, rfl, ?_⟩
      refine ⟨_, rfl, _, rfl, v, u, rfl, tv, tu, nn, fun H16 s16 => ⟨true, rfl, iteF ?_⟩⟩
      have cnt : ∀ (i : Int) (R : VK) (H6 : Hp), R (.bl true) H6 → R (.bl (decide (V.int i = V.int i))) H6 := fun i R H6 hR => by
        rw [show (decide (V.int i = V.int i)) = true from decide_eq_true rfl]
        exact hR
      by_cases e4 : d = 4
      · subst e4
        have k2 : k ≤ 2 := by unfold Narrow at hN; omega
        have hat : atI [V.int 1, V.int 27, V.int 225] (k : Int) = some (.int (totC 4 (lwF 4 k))) := by
          have : k = 0 ∨ k = 1 ∨ k = 2 := by omega
          rcases this with rfl | rfl | rfl
          · rw [t26_4_0]; rfl
          · rw [t26_4_1]; rfl
          · rw [t26_4_2]; rfl
        refine ⟨_, rfl, rfl, true, congrArg V.bl (decide_eq_true rfl), iteT ?_⟩
        refine ⟨_, rfl, (by show 3 ≤ sizeLine; decide), fun l17 H17 n17 s17 h17 => ⟨_, rfl, l17, _, _, _, rfl, rfl, SqL.of h17, hat, rfl, cnt _ _ _ (kk _)⟩⟩
      · refine ⟨_, rfl, rfl, false, congrArg V.bl (decide_eq_false fun h => e4 (by have := V.int.inj h; omega)), iteF ?_⟩
        exact ⟨_, rfl, _, rfl, _, rfl, d, k, rfl, hN, by omega, fun H17 s17 => ⟨rfl, cnt _ _ _ (kk _)⟩⟩
end
theorem us1 {α : Type} {Q : List α → Prop} (h : ∀ x0, Q [x0]) : ∀ us : List α, us.length = 1 → Q us
  := by
  intro us hl
  rcases us with _ | ⟨x0, us⟩
  · simp at hl
  rcases us with _ | ⟨y, us⟩
  · exact h x0
  · simp at hl
theorem us2 {α : Type} {Q : List α → Prop} (h : ∀ x0 x1, Q [x0, x1]) : ∀ us : List α, us.length = 2 → Q us
  := by
  intro us hl
  rcases us with _ | ⟨x0, us⟩
  · simp at hl
  rcases us with _ | ⟨x1, us⟩
  · simp at hl
  rcases us with _ | ⟨y, us⟩
  · exact h x0 x1
  · simp at hl
theorem us3 {α : Type} {Q : List α → Prop} (h : ∀ x0 x1 x2, Q [x0, x1, x2]) : ∀ us : List α, us.length = 3 → Q us
  := by
  intro us hl
  rcases us with _ | ⟨x0, us⟩
  · simp at hl
  rcases us with _ | ⟨x1, us⟩
  · simp at hl
  rcases us with _ | ⟨x2, us⟩
  · simp at hl
  rcases us with _ | ⟨y, us⟩
  · exact h x0 x1 x2
  · simp at hl
theorem us4 {α : Type} {Q : List α → Prop} (h : ∀ x0 x1 x2 x3, Q [x0, x1, x2, x3]) : ∀ us : List α, us.length = 4 → Q us
  := by
  intro us hl
  rcases us with _ | ⟨x0, us⟩
  · simp at hl
  rcases us with _ | ⟨x1, us⟩
  · simp at hl
  rcases us with _ | ⟨x2, us⟩
  · simp at hl
  rcases us with _ | ⟨x3, us⟩
  · simp at hl
  rcases us with _ | ⟨y, us⟩
  · exact h x0 x1 x2 x3
  · simp at hl
theorem all_mk {l : PySem.W.OpenLaw} {w : World} {K : PySem.W.Frag} {h : Heap} {mg : Str → Option Value} {fa : Addr} (X : K.In h) (G : h.Ns mainGlobals mg) (hfa : mg "law" = some (.ref fa))
    {f0 : Addr} {od0 an0 : Option Addr} {sl0 : Array (Option Value)} {oc0 kV0 dc0 pm0 cd0 ct0 : Value}
    (a0 : PySem.W.nsIn K mainGlobals "is_whole" = some (some (.ref f0))) (l0 : K.lookup f0 = some ⟨oc0, od0, .func (PySem.W.fnOf "is_whole" "is_whole" (defArgs s_is_whole) (defBody s_is_whole) (defScope s_is_whole) .none kV0 dc0 pm0 an0 cd0 ct0), sl0⟩) (c0 : PySem.W.codeIn K cd0 "is_whole" = true) (k0 : PySem.W.keepIn K (.ref f0) = true)
    {f1 : Addr} {od1 an1 : Option Addr} {sl1 : Array (Option Value)} {oc1 kV1 dc1 pm1 cd1 ct1 : Value}
    (a1 : PySem.W.nsIn K mainGlobals "need_between" = some (some (.ref f1))) (l1 : K.lookup f1 = some ⟨oc1, od1, .func (PySem.W.fnOf "need_between" "need_between" (defArgs s_need_between) (defBody s_need_between) (defScope s_need_between) .none kV1 dc1 pm1 an1 cd1 ct1), sl1⟩) (c1 : PySem.W.codeIn K cd1 "need_between" = true) (k1 : PySem.W.keepIn K (.ref f1) = true)
    {f2 : Addr} {od2 an2 : Option Addr} {sl2 : Array (Option Value)} {oc2 kV2 dc2 pm2 cd2 ct2 : Value}
    (a2 : PySem.W.nsIn K mainGlobals "need_narrow" = some (some (.ref f2))) (l2 : K.lookup f2 = some ⟨oc2, od2, .func (PySem.W.fnOf "need_narrow" "need_narrow" (defArgs s_need_narrow) (defBody s_need_narrow) (defScope s_need_narrow) .none kV2 dc2 pm2 an2 cd2 ct2), sl2⟩) (c2 : PySem.W.codeIn K cd2 "need_narrow" = true) (k2 : PySem.W.keepIn K (.ref f2) = true)
    {f3 : Addr} {od3 an3 : Option Addr} {sl3 : Array (Option Value)} {oc3 kV3 dc3 pm3 cd3 ct3 : Value}
    (a3 : PySem.W.nsIn K mainGlobals "need_degree" = some (some (.ref f3))) (l3 : K.lookup f3 = some ⟨oc3, od3, .func (PySem.W.fnOf "need_degree" "need_degree" (defArgs s_need_degree) (defBody s_need_degree) (defScope s_need_degree) .none kV3 dc3 pm3 an3 cd3 ct3), sl3⟩) (c3 : PySem.W.codeIn K cd3 "need_degree" = true) (k3 : PySem.W.keepIn K (.ref f3) = true)
    {f4 : Addr} {od4 an4 : Option Addr} {sl4 : Array (Option Value)} {oc4 kV4 dc4 pm4 cd4 ct4 : Value}
    (a4 : PySem.W.nsIn K mainGlobals "gathered" = some (some (.ref f4))) (l4 : K.lookup f4 = some ⟨oc4, od4, .func (PySem.W.fnOf "gathered" "gathered" (defArgs s_gathered) (defBody s_gathered) (defScope s_gathered) .none kV4 dc4 pm4 an4 cd4 ct4), sl4⟩) (c4 : PySem.W.codeIn K cd4 "gathered" = true) (k4 : PySem.W.keepIn K (.ref f4) = true)
    {f5 : Addr} {od5 an5 : Option Addr} {sl5 : Array (Option Value)} {oc5 kV5 dc5 pm5 cd5 ct5 : Value}
    (a5 : PySem.W.nsIn K mainGlobals "how_many_sets" = some (some (.ref f5))) (l5 : K.lookup f5 = some ⟨oc5, od5, .func (PySem.W.fnOf "how_many_sets" "how_many_sets" (defArgs s_how_many_sets) (defBody s_how_many_sets) (defScope s_how_many_sets) .none kV5 dc5 pm5 an5 cd5 ct5), sl5⟩) (c5 : PySem.W.codeIn K cd5 "how_many_sets" = true) (k5 : PySem.W.keepIn K (.ref f5) = true)
    {f6 : Addr} {od6 an6 : Option Addr} {sl6 : Array (Option Value)} {oc6 kV6 dc6 pm6 cd6 ct6 : Value}
    (a6 : PySem.W.nsIn K mainGlobals "points" = some (some (.ref f6))) (l6 : K.lookup f6 = some ⟨oc6, od6, .func (PySem.W.fnOf "points" "points" (defArgs s_points) (defBody s_points) (defScope s_points) .none kV6 dc6 pm6 an6 cd6 ct6), sl6⟩) (c6 : PySem.W.codeIn K cd6 "points" = true) (k6 : PySem.W.keepIn K (.ref f6) = true)
    {f7 : Addr} {od7 an7 : Option Addr} {sl7 : Array (Option Value)} {oc7 kV7 dc7 pm7 cd7 ct7 : Value}
    (a7 : PySem.W.nsIn K mainGlobals "is_point" = some (some (.ref f7))) (l7 : K.lookup f7 = some ⟨oc7, od7, .func (PySem.W.fnOf "is_point" "is_point" (defArgs s_is_point) (defBody s_is_point) (defScope s_is_point) .none kV7 dc7 pm7 an7 cd7 ct7), sl7⟩) (c7 : PySem.W.codeIn K cd7 "is_point" = true) (k7 : PySem.W.keepIn K (.ref f7) = true)
    {f8 : Addr} {od8 an8 : Option Addr} {sl8 : Array (Option Value)} {oc8 kV8 dc8 pm8 cd8 ct8 : Value}
    (a8 : PySem.W.nsIn K mainGlobals "corner" = some (some (.ref f8))) (l8 : K.lookup f8 = some ⟨oc8, od8, .func (PySem.W.fnOf "corner" "corner" (defArgs s_corner) (defBody s_corner) (defScope s_corner) .none kV8 dc8 pm8 an8 cd8 ct8), sl8⟩) (c8 : PySem.W.codeIn K cd8 "corner" = true) (k8 : PySem.W.keepIn K (.ref f8) = true)
    {f9 : Addr} {od9 an9 : Option Addr} {sl9 : Array (Option Value)} {oc9 kV9 dc9 pm9 cd9 ct9 : Value}
    (a9 : PySem.W.nsIn K mainGlobals "upper_edge" = some (some (.ref f9))) (l9 : K.lookup f9 = some ⟨oc9, od9, .func (PySem.W.fnOf "upper_edge" "upper_edge" (defArgs s_upper_edge) (defBody s_upper_edge) (defScope s_upper_edge) .none kV9 dc9 pm9 an9 cd9 ct9), sl9⟩) (c9 : PySem.W.codeIn K cd9 "upper_edge" = true) (k9 : PySem.W.keepIn K (.ref f9) = true)
    {f10 : Addr} {od10 an10 : Option Addr} {sl10 : Array (Option Value)} {oc10 kV10 dc10 pm10 cd10 ct10 : Value}
    (a10 : PySem.W.nsIn K mainGlobals "lower_edge" = some (some (.ref f10))) (l10 : K.lookup f10 = some ⟨oc10, od10, .func (PySem.W.fnOf "lower_edge" "lower_edge" (defArgs s_lower_edge) (defBody s_lower_edge) (defScope s_lower_edge) .none kV10 dc10 pm10 an10 cd10 ct10), sl10⟩) (c10 : PySem.W.codeIn K cd10 "lower_edge" = true) (k10 : PySem.W.keepIn K (.ref f10) = true)
    {f11 : Addr} {od11 an11 : Option Addr} {sl11 : Array (Option Value)} {oc11 kV11 dc11 pm11 cd11 ct11 : Value}
    (a11 : PySem.W.nsIn K mainGlobals "first_turn" = some (some (.ref f11))) (l11 : K.lookup f11 = some ⟨oc11, od11, .func (PySem.W.fnOf "first_turn" "first_turn" (defArgs s_first_turn) (defBody s_first_turn) (defScope s_first_turn) .none kV11 dc11 pm11 an11 cd11 ct11), sl11⟩) (c11 : PySem.W.codeIn K cd11 "first_turn" = true) (k11 : PySem.W.keepIn K (.ref f11) = true)
    {f12 : Addr} {od12 an12 : Option Addr} {sl12 : Array (Option Value)} {oc12 kV12 dc12 pm12 cd12 ct12 : Value}
    (a12 : PySem.W.nsIn K mainGlobals "steps" = some (some (.ref f12))) (l12 : K.lookup f12 = some ⟨oc12, od12, .func (PySem.W.fnOf "steps" "steps" (defArgs s_steps) (defBody s_steps) (defScope s_steps) .none kV12 dc12 pm12 an12 cd12 ct12), sl12⟩) (c12 : PySem.W.codeIn K cd12 "steps" = true) (k12 : PySem.W.keepIn K (.ref f12) = true)
    {f13 : Addr} {od13 an13 : Option Addr} {sl13 : Array (Option Value)} {oc13 kV13 dc13 pm13 cd13 ct13 : Value}
    (a13 : PySem.W.nsIn K mainGlobals "piece_worth" = some (some (.ref f13))) (l13 : K.lookup f13 = some ⟨oc13, od13, .func (PySem.W.fnOf "piece_worth" "piece_worth" (defArgs s_piece_worth) (defBody s_piece_worth) (defScope s_piece_worth) .none kV13 dc13 pm13 an13 cd13 ct13), sl13⟩) (c13 : PySem.W.codeIn K cd13 "piece_worth" = true) (k13 : PySem.W.keepIn K (.ref f13) = true)
    {f14 : Addr} {od14 an14 : Option Addr} {sl14 : Array (Option Value)} {oc14 kV14 dc14 pm14 cd14 ct14 : Value}
    (a14 : PySem.W.nsIn K mainGlobals "leaving_out" = some (some (.ref f14))) (l14 : K.lookup f14 = some ⟨oc14, od14, .func (PySem.W.fnOf "leaving_out" "leaving_out" (defArgs s_leaving_out) (defBody s_leaving_out) (defScope s_leaving_out) .none kV14 dc14 pm14 an14 cd14 ct14), sl14⟩) (c14 : PySem.W.codeIn K cd14 "leaving_out" = true) (k14 : PySem.W.keepIn K (.ref f14) = true)
    {f15 : Addr} {od15 an15 : Option Addr} {sl15 : Array (Option Value)} {oc15 kV15 dc15 pm15 cd15 ct15 : Value}
    (a15 : PySem.W.nsIn K mainGlobals "ways" = some (some (.ref f15))) (l15 : K.lookup f15 = some ⟨oc15, od15, .func (PySem.W.fnOf "ways" "ways" (defArgs s_ways) (defBody s_ways) (defScope s_ways) .none kV15 dc15 pm15 an15 cd15 ct15), sl15⟩) (c15 : PySem.W.codeIn K cd15 "ways" = true) (k15 : PySem.W.keepIn K (.ref f15) = true)
    {f16 : Addr} {od16 an16 : Option Addr} {sl16 : Array (Option Value)} {oc16 kV16 dc16 pm16 cd16 ct16 : Value}
    (a16 : PySem.W.nsIn K mainGlobals "manners" = some (some (.ref f16))) (l16 : K.lookup f16 = some ⟨oc16, od16, .func (PySem.W.fnOf "manners" "manners" (defArgs s_manners) (defBody s_manners) (defScope s_manners) .none kV16 dc16 pm16 an16 cd16 ct16), sl16⟩) (c16 : PySem.W.codeIn K cd16 "manners" = true) (k16 : PySem.W.keepIn K (.ref f16) = true)
    {f17 : Addr} {od17 an17 : Option Addr} {sl17 : Array (Option Value)} {oc17 kV17 dc17 pm17 cd17 ct17 : Value}
    (a17 : PySem.W.nsIn K mainGlobals "cuttings" = some (some (.ref f17))) (l17 : K.lookup f17 = some ⟨oc17, od17, .func (PySem.W.fnOf "cuttings" "cuttings" (defArgs s_cuttings) (defBody s_cuttings) (defScope s_cuttings) .none kV17 dc17 pm17 an17 cd17 ct17), sl17⟩) (c17 : PySem.W.codeIn K cd17 "cuttings" = true) (k17 : PySem.W.keepIn K (.ref f17) = true)
    {f18 : Addr} {od18 an18 : Option Addr} {sl18 : Array (Option Value)} {oc18 kV18 dc18 pm18 cd18 ct18 : Value}
    (a18 : PySem.W.nsIn K mainGlobals "cut_worth" = some (some (.ref f18))) (l18 : K.lookup f18 = some ⟨oc18, od18, .func (PySem.W.fnOf "cut_worth" "cut_worth" (defArgs s_cut_worth) (defBody s_cut_worth) (defScope s_cut_worth) .none kV18 dc18 pm18 an18 cd18 ct18), sl18⟩) (c18 : PySem.W.codeIn K cd18 "cut_worth" = true) (k18 : PySem.W.keepIn K (.ref f18) = true)
    {f19 : Addr} {od19 an19 : Option Addr} {sl19 : Array (Option Value)} {oc19 kV19 dc19 pm19 cd19 ct19 : Value}
    (a19 : PySem.W.nsIn K mainGlobals "sides" = some (some (.ref f19))) (l19 : K.lookup f19 = some ⟨oc19, od19, .func (PySem.W.fnOf "sides" "sides" (defArgs s_sides) (defBody s_sides) (defScope s_sides) .none kV19 dc19 pm19 an19 cd19 ct19), sl19⟩) (c19 : PySem.W.codeIn K cd19 "sides" = true) (k19 : PySem.W.keepIn K (.ref f19) = true)
    {f20 : Addr} {od20 an20 : Option Addr} {sl20 : Array (Option Value)} {oc20 kV20 dc20 pm20 cd20 ct20 : Value}
    (a20 : PySem.W.nsIn K mainGlobals "threads" = some (some (.ref f20))) (l20 : K.lookup f20 = some ⟨oc20, od20, .func (PySem.W.fnOf "threads" "threads" (defArgs s_threads) (defBody s_threads) (defScope s_threads) .none kV20 dc20 pm20 an20 cd20 ct20), sl20⟩) (c20 : PySem.W.codeIn K cd20 "threads" = true) (k20 : PySem.W.keepIn K (.ref f20) = true)
    {f21 : Addr} {od21 an21 : Option Addr} {sl21 : Array (Option Value)} {oc21 kV21 dc21 pm21 cd21 ct21 : Value}
    (a21 : PySem.W.nsIn K mainGlobals "corner_pieces" = some (some (.ref f21))) (l21 : K.lookup f21 = some ⟨oc21, od21, .func (PySem.W.fnOf "corner_pieces" "corner_pieces" (defArgs s_corner_pieces) (defBody s_corner_pieces) (defScope s_corner_pieces) .none kV21 dc21 pm21 an21 cd21 ct21), sl21⟩) (c21 : PySem.W.codeIn K cd21 "corner_pieces" = true) (k21 : PySem.W.keepIn K (.ref f21) = true)
    {f22 : Addr} {od22 an22 : Option Addr} {sl22 : Array (Option Value)} {oc22 kV22 dc22 pm22 cd22 ct22 : Value}
    (a22 : PySem.W.nsIn K mainGlobals "joined" = some (some (.ref f22))) (l22 : K.lookup f22 = some ⟨oc22, od22, .func (PySem.W.fnOf "joined" "joined" (defArgs s_joined) (defBody s_joined) (defScope s_joined) .none kV22 dc22 pm22 an22 cd22 ct22), sl22⟩) (c22 : PySem.W.codeIn K cd22 "joined" = true) (k22 : PySem.W.keepIn K (.ref f22) = true)
    {f23 : Addr} {od23 an23 : Option Addr} {sl23 : Array (Option Value)} {oc23 kV23 dc23 pm23 cd23 ct23 : Value}
    (a23 : PySem.W.nsIn K mainGlobals "cut_parts" = some (some (.ref f23))) (l23 : K.lookup f23 = some ⟨oc23, od23, .func (PySem.W.fnOf "cut_parts" "cut_parts" (defArgs s_cut_parts) (defBody s_cut_parts) (defScope s_cut_parts) .none kV23 dc23 pm23 an23 cd23 ct23), sl23⟩) (c23 : PySem.W.codeIn K cd23 "cut_parts" = true) (k23 : PySem.W.keepIn K (.ref f23) = true)
    {f24 : Addr} {od24 an24 : Option Addr} {sl24 : Array (Option Value)} {oc24 kV24 dc24 pm24 cd24 ct24 : Value}
    (a24 : PySem.W.nsIn K mainGlobals "whole_by_ways" = some (some (.ref f24))) (l24 : K.lookup f24 = some ⟨oc24, od24, .func (PySem.W.fnOf "whole_by_ways" "whole_by_ways" (defArgs s_whole_by_ways) (defBody s_whole_by_ways) (defScope s_whole_by_ways) .none kV24 dc24 pm24 an24 cd24 ct24), sl24⟩) (c24 : PySem.W.codeIn K cd24 "whole_by_ways" = true) (k24 : PySem.W.keepIn K (.ref f24) = true)
    {f25 : Addr} {od25 an25 : Option Addr} {sl25 : Array (Option Value)} {oc25 kV25 dc25 pm25 cd25 ct25 : Value}
    (a25 : PySem.W.nsIn K mainGlobals "_law_cell_at" = some (some (.ref f25))) (l25 : K.lookup f25 = some ⟨oc25, od25, .func (PySem.W.fnOf "_law_cell_at" "_law_cell_at" (defArgs s__law_cell_at) (defBody s__law_cell_at) (defScope s__law_cell_at) .none kV25 dc25 pm25 an25 cd25 ct25), sl25⟩) (c25 : PySem.W.codeIn K cd25 "_law_cell_at" = true) (k25 : PySem.W.keepIn K (.ref f25) = true)
    {f26 : Addr} {od26 an26 : Option Addr} {sl26 : Array (Option Value)} {oc26 kV26 dc26 pm26 cd26 ct26 : Value}
    (a26 : PySem.W.nsIn K mainGlobals "_law_number" = some (some (.ref f26))) (l26 : K.lookup f26 = some ⟨oc26, od26, .func (PySem.W.fnOf "_law_number" "_law_number" (defArgs s__law_number) (defBody s__law_number) (defScope s__law_number) .none kV26 dc26 pm26 an26 cd26 ct26), sl26⟩) (c26 : PySem.W.codeIn K cd26 "_law_number" = true) (k26 : PySem.W.keepIn K (.ref f26) = true)
    {f27 : Addr} {od27 an27 : Option Addr} {sl27 : Array (Option Value)} {oc27 kV27 dc27 pm27 cd27 ct27 : Value}
    (a27 : PySem.W.nsIn K mainGlobals "_law_sides" = some (some (.ref f27))) (l27 : K.lookup f27 = some ⟨oc27, od27, .func (PySem.W.fnOf "_law_sides" "_law_sides" (defArgs s__law_sides) (defBody s__law_sides) (defScope s__law_sides) .none kV27 dc27 pm27 an27 cd27 ct27), sl27⟩) (c27 : PySem.W.codeIn K cd27 "_law_sides" = true) (k27 : PySem.W.keepIn K (.ref f27) = true)
    {f28 : Addr} {od28 an28 : Option Addr} {sl28 : Array (Option Value)} {oc28 kV28 dc28 pm28 cd28 ct28 : Value}
    (a28 : PySem.W.nsIn K mainGlobals "_law_end" = some (some (.ref f28))) (l28 : K.lookup f28 = some ⟨oc28, od28, .func (PySem.W.fnOf "_law_end" "_law_end" (defArgs s__law_end) (defBody s__law_end) (defScope s__law_end) .none kV28 dc28 pm28 an28 cd28 ct28), sl28⟩) (c28 : PySem.W.codeIn K cd28 "_law_end" = true) (k28 : PySem.W.keepIn K (.ref f28) = true)
    {f29 : Addr} {od29 an29 : Option Addr} {sl29 : Array (Option Value)} {oc29 kV29 dc29 pm29 cd29 ct29 : Value}
    (a29 : PySem.W.nsIn K mainGlobals "_law_joined" = some (some (.ref f29))) (l29 : K.lookup f29 = some ⟨oc29, od29, .func (PySem.W.fnOf "_law_joined" "_law_joined" (defArgs s__law_joined) (defBody s__law_joined) (defScope s__law_joined) .none kV29 dc29 pm29 an29 cd29 ct29), sl29⟩) (c29 : PySem.W.codeIn K cd29 "_law_joined" = true) (k29 : PySem.W.keepIn K (.ref f29) = true)
    {f30 : Addr} {od30 an30 : Option Addr} {sl30 : Array (Option Value)} {oc30 kV30 dc30 pm30 cd30 ct30 : Value}
    (a30 : PySem.W.nsIn K mainGlobals "_law_parts" = some (some (.ref f30))) (l30 : K.lookup f30 = some ⟨oc30, od30, .func (PySem.W.fnOf "_law_parts" "_law_parts" (defArgs s__law_parts) (defBody s__law_parts) (defScope s__law_parts) .none kV30 dc30 pm30 an30 cd30 ct30), sl30⟩) (c30 : PySem.W.codeIn K cd30 "_law_parts" = true) (k30 : PySem.W.keepIn K (.ref f30) = true)
    {f31 : Addr} {od31 an31 : Option Addr} {sl31 : Array (Option Value)} {oc31 kV31 dc31 pm31 cd31 ct31 : Value}
    (a31 : PySem.W.nsIn K mainGlobals "_law_product" = some (some (.ref f31))) (l31 : K.lookup f31 = some ⟨oc31, od31, .func (PySem.W.fnOf "_law_product" "_law_product" (defArgs s__law_product) (defBody s__law_product) (defScope s__law_product) .none kV31 dc31 pm31 an31 cd31 ct31), sl31⟩) (c31 : PySem.W.codeIn K cd31 "_law_product" = true) (k31 : PySem.W.keepIn K (.ref f31) = true)
    {f32 : Addr} {od32 an32 : Option Addr} {sl32 : Array (Option Value)} {oc32 kV32 dc32 pm32 cd32 ct32 : Value}
    (a32 : PySem.W.nsIn K mainGlobals "_law_ways" = some (some (.ref f32))) (l32 : K.lookup f32 = some ⟨oc32, od32, .func (PySem.W.fnOf "_law_ways" "_law_ways" (defArgs s__law_ways) (defBody s__law_ways) (defScope s__law_ways) .none kV32 dc32 pm32 an32 cd32 ct32), sl32⟩) (c32 : PySem.W.codeIn K cd32 "_law_ways" = true) (k32 : PySem.W.keepIn K (.ref f32) = true)
    {f33 : Addr} {od33 an33 : Option Addr} {sl33 : Array (Option Value)} {oc33 kV33 dc33 pm33 cd33 ct33 : Value}
    (a33 : PySem.W.nsIn K mainGlobals "_law_due" = some (some (.ref f33))) (l33 : K.lookup f33 = some ⟨oc33, od33, .func (PySem.W.fnOf "_law_due" "_law_due" (defArgs s__law_due) (defBody s__law_due) (defScope s__law_due) .none kV33 dc33 pm33 an33 cd33 ct33), sl33⟩) (c33 : PySem.W.codeIn K cd33 "_law_due" = true) (k33 : PySem.W.keepIn K (.ref f33) = true)
    {f34 : Addr} {od34 an34 : Option Addr} {sl34 : Array (Option Value)} {oc34 kV34 dc34 pm34 cd34 ct34 : Value}
    (a34 : PySem.W.nsIn K mainGlobals "_law_refused" = some (some (.ref f34))) (l34 : K.lookup f34 = some ⟨oc34, od34, .func (PySem.W.fnOf "_law_refused" "_law_refused" (defArgs s__law_refused) (defBody s__law_refused) (defScope s__law_refused) .none kV34 dc34 pm34 an34 cd34 ct34), sl34⟩) (c34 : PySem.W.codeIn K cd34 "_law_refused" = true) (k34 : PySem.W.keepIn K (.ref f34) = true)
    {f35 : Addr} {od35 an35 : Option Addr} {sl35 : Array (Option Value)} {oc35 kV35 dc35 pm35 cd35 ct35 : Value}
    (a35 : PySem.W.nsIn K mainGlobals "law" = some (some (.ref f35))) (l35 : K.lookup f35 = some ⟨oc35, od35, .func (PySem.W.fnOf "law" "law" (defArgs s_law) (defBody s_law) (defScope s_law) .none kV35 dc35 pm35 an35 cd35 ct35), sl35⟩) (c35 : PySem.W.codeIn K cd35 "law" = true) (k35 : PySem.W.keepIn K (.ref f35) = true)
    (z0 : PySem.W.nsIn K mainGlobals "isinstance" = some none)
    (z1 : PySem.W.nsIn K mainGlobals "int" = some none)
    (z2 : PySem.W.nsIn K mainGlobals "bool" = some none)
    (z3 : PySem.W.nsIn K mainGlobals "len" = some none)
    (z4 : PySem.W.nsIn K mainGlobals "range" = some none)
    (z5 : PySem.W.nsIn K mainGlobals "abs" = some none)
    (z6 : PySem.W.nsIn K mainGlobals "list" = some none)
    (z7 : PySem.W.nsIn K mainGlobals "sorted" = some none)
    (z8 : PySem.W.nsIn K mainGlobals "min" = some none)
    (z9 : PySem.W.nsIn K mainGlobals "max" = some none)
    (z10 : PySem.W.nsIn K mainGlobals "ValueError" = some none)
    (z11 : PySem.W.nsIn K mainGlobals "str" = some none)
    {K_LEFT : Tok} (mi_LEFT : PySem.W.nsIn K mainGlobals "LEFT" = some (some (.int (1) K_LEFT)))
    {K_RIGHT : Tok} (mi_RIGHT : PySem.W.nsIn K mainGlobals "RIGHT" = some (some (.int (-1) K_RIGHT)))
    {A_NARROW : Addr} (da_NARROW : PySem.W.nsIn K mainGlobals "NARROW" = some (some (.ref A_NARROW))) (dt_NARROW : dtabIn K A_NARROW [(1, 6), (2, 6), (3, 6), (4, 2)] = true)
    {C_NoBound : Addr} (ca_NoBound : PySem.W.nsIn K mainGlobals "NoBound" = some (some (.ref C_NoBound)))
    (cx_NoBound : PySem.W.excIn K C_NoBound bmV "ValueError.__new__" = true)
    (xc_NoBound_cl : (PySem.W.clsIn K C_NoBound).isSome = true)
    (xc_NoBound_ga : PySem.W.findIn K (.ref C_NoBound) "__getattribute__" = some (some (.builtin "BaseException.__getattribute__")))
    (xc_NoBound_gt : PySem.W.findIn K (.ref C_NoBound) "__getattr__" = some none)
    (xc_NoBound_ca : PySem.W.findIn K (.ref C_NoBound) "__class__" = some (some (.builtin "object.__class__")))
    (xc_NoBound_gn : PySem.W.specialIn K (.builtin "object.__class__") "__get__" = some (some (.builtin "getset_descriptor.__get__")))
    (xc_NoBound_tk : PySem.W.takesIn K (.builtin "object.__class__") = some true)
    (xc_NoBound_ob : PySem.W.mroIn K C_NoBound (.type "object") = some true)
    (xc_NoBound_be : PySem.W.mroIn K C_NoBound (.type "BaseException") = some true)
    (ce_NoBound_NoBound : PySem.W.exmOne K (.ref C_NoBound) (.ref C_NoBound) = some true)
    (ck_NoBound_ValueError : PySem.W.kitOne K (.ref C_NoBound) (.type "ValueError") = some true)
    : ∃ fd : FuncData, (∀ (s : Shared) (v : Value), BindsTo s fd ⟨[v], []⟩ [("_law_script", v)]) ∧ ∀ base : Heap, K.In base → base.Ns mainGlobals mg → FnOk l.prog w K mg base CX0 48 fa fd ["_law_script"] (sp_law K) := by
  have e := hfa.symm.trans (PySem.W.mg_of X G a35)
  cases e
  have F0 := fun_mk (st := s_is_whole) l0 c0 k0
  have B0 := F0.binds (ps := ["thing"]) fun _ _ _ _ _ _ us hl => us1 (Q := fun us => bindArgs _ ⟨us, []⟩ = pure (List.zip _ us)) (fun _ => rfl) us hl
  have F1 := fun_mk (st := s_need_between) l1 c1 k1
  have B1 := F1.binds (ps := ["thing", "least", "greatest"]) fun _ _ _ _ _ _ us hl => us3 (Q := fun us => bindArgs _ ⟨us, []⟩ = pure (List.zip _ us)) (fun _ _ _ => rfl) us hl
  have F2 := fun_mk (st := s_need_narrow) l2 c2 k2
  have B2 := F2.binds (ps := ["d", "k"]) fun _ _ _ _ _ _ us hl => us2 (Q := fun us => bindArgs _ ⟨us, []⟩ = pure (List.zip _ us)) (fun _ _ => rfl) us hl
  have F3 := fun_mk (st := s_need_degree) l3 c3 k3
  have B3 := F3.binds (ps := ["d"]) fun _ _ _ _ _ _ us hl => us1 (Q := fun us => bindArgs _ ⟨us, []⟩ = pure (List.zip _ us)) (fun _ => rfl) us hl
  have F4 := fun_mk (st := s_gathered) l4 c4 k4
  have B4 := F4.binds (ps := ["things", "pairs"]) fun _ _ _ _ _ _ us hl => us2 (Q := fun us => bindArgs _ ⟨us, []⟩ = pure (List.zip _ us)) (fun _ _ => rfl) us hl
  have F5 := fun_mk (st := s_how_many_sets) l5 c5 k5
  have B5 := F5.binds (ps := ["things", "pairs"]) fun _ _ _ _ _ _ us hl => us2 (Q := fun us => bindArgs _ ⟨us, []⟩ = pure (List.zip _ us)) (fun _ _ => rfl) us hl
  have F6 := fun_mk (st := s_points) l6 c6 k6
  have B6 := F6.binds (ps := ["d"]) fun _ _ _ _ _ _ us hl => us1 (Q := fun us => bindArgs _ ⟨us, []⟩ = pure (List.zip _ us)) (fun _ => rfl) us hl
  have F7 := fun_mk (st := s_is_point) l7 c7 k7
  have B7 := F7.binds (ps := ["d", "point"]) fun _ _ _ _ _ _ us hl => us2 (Q := fun us => bindArgs _ ⟨us, []⟩ = pure (List.zip _ us)) (fun _ _ => rfl) us hl
  have F8 := fun_mk (st := s_corner) l8 c8 k8
  have B8 := F8.binds (ps := ["a", "b", "c"]) fun _ _ _ _ _ _ us hl => us3 (Q := fun us => bindArgs _ ⟨us, []⟩ = pure (List.zip _ us)) (fun _ _ _ => rfl) us hl
  have F9 := fun_mk (st := s_upper_edge) l9 c9 k9
  have B9 := F9.binds (ps := ["d"]) fun _ _ _ _ _ _ us hl => us1 (Q := fun us => bindArgs _ ⟨us, []⟩ = pure (List.zip _ us)) (fun _ => rfl) us hl
  have F10 := fun_mk (st := s_lower_edge) l10 c10 k10
  have B10 := F10.binds (ps := ["d"]) fun _ _ _ _ _ _ us hl => us1 (Q := fun us => bindArgs _ ⟨us, []⟩ = pure (List.zip _ us)) (fun _ => rfl) us hl
  have F11 := fun_mk (st := s_first_turn) l11 c11 k11
  have B11 := F11.binds (ps := ["way", "side"]) fun _ _ _ _ _ _ us hl => us2 (Q := fun us => bindArgs _ ⟨us, []⟩ = pure (List.zip _ us)) (fun _ _ => rfl) us hl
  have F12 := fun_mk (st := s_steps) l12 c12 k12
  have B12 := F12.binds (ps := ["d", "way", "side"]) fun _ _ _ _ _ _ us hl => us3 (Q := fun us => bindArgs _ ⟨us, []⟩ = pure (List.zip _ us)) (fun _ _ _ => rfl) us hl
  have F13 := fun_mk (st := s_piece_worth) l13 c13 k13
  have B13 := F13.binds (ps := ["piece"]) fun _ _ _ _ _ _ us hl => us1 (Q := fun us => bindArgs _ ⟨us, []⟩ = pure (List.zip _ us)) (fun _ => rfl) us hl
  have F14 := fun_mk (st := s_leaving_out) l14 c14 k14
  have B14 := F14.binds (ps := ["row", "k"]) fun _ _ _ _ _ _ us hl => us2 (Q := fun us => bindArgs _ ⟨us, []⟩ = pure (List.zip _ us)) (fun _ _ => rfl) us hl
  have F15 := fun_mk (st := s_ways) l15 c15 k15
  have B15 := F15.binds (ps := ["d", "k"]) fun _ _ _ _ _ _ us hl => us2 (Q := fun us => bindArgs _ ⟨us, []⟩ = pure (List.zip _ us)) (fun _ _ => rfl) us hl
  have F16 := fun_mk (st := s_manners) l16 c16 k16
  have B16 := F16.binds (ps := ["d", "way", "side", "edge"]) fun _ _ _ _ _ _ us hl => us4 (Q := fun us => bindArgs _ ⟨us, []⟩ = pure (List.zip _ us)) (fun _ _ _ _ => rfl) us hl
  have F17 := fun_mk (st := s_cuttings) l17 c17 k17
  have B17 := F17.binds (ps := ["d", "way"]) fun _ _ _ _ _ _ us hl => us2 (Q := fun us => bindArgs _ ⟨us, []⟩ = pure (List.zip _ us)) (fun _ _ => rfl) us hl
  have F18 := fun_mk (st := s_cut_worth) l18 c18 k18
  have B18 := F18.binds (ps := ["cutting"]) fun _ _ _ _ _ _ us hl => us1 (Q := fun us => bindArgs _ ⟨us, []⟩ = pure (List.zip _ us)) (fun _ => rfl) us hl
  have F19 := fun_mk (st := s_sides) l19 c19 k19
  have B19 := F19.binds (ps := ["piece"]) fun _ _ _ _ _ _ us hl => us1 (Q := fun us => bindArgs _ ⟨us, []⟩ = pure (List.zip _ us)) (fun _ => rfl) us hl
  have F20 := fun_mk (st := s_threads) l20 c20 k20
  have B20 := F20.binds (ps := ["cutting"]) fun _ _ _ _ _ _ us hl => us1 (Q := fun us => bindArgs _ ⟨us, []⟩ = pure (List.zip _ us)) (fun _ => rfl) us hl
  have F21 := fun_mk (st := s_corner_pieces) l21 c21 k21
  have B21 := F21.binds (ps := ["cutting"]) fun _ _ _ _ _ _ us hl => us1 (Q := fun us => bindArgs _ ⟨us, []⟩ = pure (List.zip _ us)) (fun _ => rfl) us hl
  have F22 := fun_mk (st := s_joined) l22 c22 k22
  have B22 := F22.binds (ps := ["cutting"]) fun _ _ _ _ _ _ us hl => us1 (Q := fun us => bindArgs _ ⟨us, []⟩ = pure (List.zip _ us)) (fun _ => rfl) us hl
  have F23 := fun_mk (st := s_cut_parts) l23 c23 k23
  have B23 := F23.binds (ps := ["cutting"]) fun _ _ _ _ _ _ us hl => us1 (Q := fun us => bindArgs _ ⟨us, []⟩ = pure (List.zip _ us)) (fun _ => rfl) us hl
  have F24 := fun_mk (st := s_whole_by_ways) l24 c24 k24
  have B24 := F24.binds (ps := ["d", "k"]) fun _ _ _ _ _ _ us hl => us2 (Q := fun us => bindArgs _ ⟨us, []⟩ = pure (List.zip _ us)) (fun _ _ => rfl) us hl
  have F25 := fun_mk (st := s__law_cell_at) l25 c25 k25
  have B25 := F25.binds (ps := ["_law_script", "_law_k"]) fun _ _ _ _ _ _ us hl => us2 (Q := fun us => bindArgs _ ⟨us, []⟩ = pure (List.zip _ us)) (fun _ _ => rfl) us hl
  have F26 := fun_mk (st := s__law_number) l26 c26 k26
  have B26 := F26.binds (ps := ["_law_script", "_law_k"]) fun _ _ _ _ _ _ us hl => us2 (Q := fun us => bindArgs _ ⟨us, []⟩ = pure (List.zip _ us)) (fun _ _ => rfl) us hl
  have F27 := fun_mk (st := s__law_sides) l27 c27 k27
  have B27 := F27.binds (ps := ["_law_piece"]) fun _ _ _ _ _ _ us hl => us1 (Q := fun us => bindArgs _ ⟨us, []⟩ = pure (List.zip _ us)) (fun _ => rfl) us hl
  have F28 := fun_mk (st := s__law_end) l28 c28 k28
  have B28 := F28.binds (ps := ["_law_around", "_law_place", "_law_side"]) fun _ _ _ _ _ _ us hl => us3 (Q := fun us => bindArgs _ ⟨us, []⟩ = pure (List.zip _ us)) (fun _ _ _ => rfl) us hl
  have F29 := fun_mk (st := s__law_joined) l29 c29 k29
  have B29 := F29.binds (ps := ["_law_pieces"]) fun _ _ _ _ _ _ us hl => us1 (Q := fun us => bindArgs _ ⟨us, []⟩ = pure (List.zip _ us)) (fun _ => rfl) us hl
  have F30 := fun_mk (st := s__law_parts) l30 c30 k30
  have B30 := F30.binds (ps := ["_law_pieces", "_law_pairs"]) fun _ _ _ _ _ _ us hl => us2 (Q := fun us => bindArgs _ ⟨us, []⟩ = pure (List.zip _ us)) (fun _ _ => rfl) us hl
  have F31 := fun_mk (st := s__law_product) l31 c31 k31
  have B31 := F31.binds (ps := ["_law_pieces"]) fun _ _ _ _ _ _ us hl => us1 (Q := fun us => bindArgs _ ⟨us, []⟩ = pure (List.zip _ us)) (fun _ => rfl) us hl
  have F32 := fun_mk (st := s__law_ways) l32 c32 k32
  have B32 := F32.binds (ps := ["_law_d", "_law_k"]) fun _ _ _ _ _ _ us hl => us2 (Q := fun us => bindArgs _ ⟨us, []⟩ = pure (List.zip _ us)) (fun _ _ => rfl) us hl
  have F33 := fun_mk (st := s__law_due) l33 c33 k33
  have B33 := F33.binds (ps := ["_law_d", "_law_k"]) fun _ _ _ _ _ _ us hl => us2 (Q := fun us => bindArgs _ ⟨us, []⟩ = pure (List.zip _ us)) (fun _ _ => rfl) us hl
  have F34 := fun_mk (st := s__law_refused) l34 c34 k34
  have B34 := F34.binds (ps := ["_law_d", "_law_k"]) fun _ _ _ _ _ _ us hl => us2 (Q := fun us => bindArgs _ ⟨us, []⟩ = pure (List.zip _ us)) (fun _ _ => rfl) us hl
  have F35 := fun_mk (st := s_law) l35 c35 k35
  have B35 := F35.binds (ps := ["_law_script"]) fun _ _ _ _ _ _ us hl => us1 (Q := fun us => bindArgs _ ⟨us, []⟩ = pure (List.zip _ us)) (fun _ => rfl) us hl
  let T : Fns K mg := { f_is_whole := f0, d_is_whole := _, F_is_whole := F0, B_is_whole := B0, m_is_whole := PySem.W.mg_of X G a0, f_need_between := f1, d_need_between := _, F_need_between := F1, B_need_between := B1, m_need_between := PySem.W.mg_of X G a1, f_need_narrow := f2, d_need_narrow := _, F_need_narrow := F2, B_need_narrow := B2, m_need_narrow := PySem.W.mg_of X G a2, f_need_degree := f3, d_need_degree := _, F_need_degree := F3, B_need_degree := B3, m_need_degree := PySem.W.mg_of X G a3, f_gathered := f4, d_gathered := _, F_gathered := F4, B_gathered := B4, m_gathered := PySem.W.mg_of X G a4, f_how_many_sets := f5, d_how_many_sets := _, F_how_many_sets := F5, B_how_many_sets := B5, m_how_many_sets := PySem.W.mg_of X G a5, f_points := f6, d_points := _, F_points := F6, B_points := B6, m_points := PySem.W.mg_of X G a6, f_is_point := f7, d_is_point := _, F_is_point := F7, B_is_point := B7, m_is_point := PySem.W.mg_of X G a7, f_corner := f8, d_corner := _, F_corner := F8, B_corner := B8, m_corner := PySem.W.mg_of X G a8, f_upper_edge := f9, d_upper_edge := _, F_upper_edge := F9, B_upper_edge := B9, m_upper_edge := PySem.W.mg_of X G a9, f_lower_edge := f10, d_lower_edge := _, F_lower_edge := F10, B_lower_edge := B10, m_lower_edge := PySem.W.mg_of X G a10, f_first_turn := f11, d_first_turn := _, F_first_turn := F11, B_first_turn := B11, m_first_turn := PySem.W.mg_of X G a11, f_steps := f12, d_steps := _, F_steps := F12, B_steps := B12, m_steps := PySem.W.mg_of X G a12, f_piece_worth := f13, d_piece_worth := _, F_piece_worth := F13, B_piece_worth := B13, m_piece_worth := PySem.W.mg_of X G a13, f_leaving_out := f14, d_leaving_out := _, F_leaving_out := F14, B_leaving_out := B14, m_leaving_out := PySem.W.mg_of X G a14, f_ways := f15, d_ways := _, F_ways := F15, B_ways := B15, m_ways := PySem.W.mg_of X G a15, f_manners := f16, d_manners := _, F_manners := F16, B_manners := B16, m_manners := PySem.W.mg_of X G a16, f_cuttings := f17, d_cuttings := _, F_cuttings := F17, B_cuttings := B17, m_cuttings := PySem.W.mg_of X G a17, f_cut_worth := f18, d_cut_worth := _, F_cut_worth := F18, B_cut_worth := B18, m_cut_worth := PySem.W.mg_of X G a18, f_sides := f19, d_sides := _, F_sides := F19, B_sides := B19, m_sides := PySem.W.mg_of X G a19, f_threads := f20, d_threads := _, F_threads := F20, B_threads := B20, m_threads := PySem.W.mg_of X G a20, f_corner_pieces := f21, d_corner_pieces := _, F_corner_pieces := F21, B_corner_pieces := B21, m_corner_pieces := PySem.W.mg_of X G a21, f_joined := f22, d_joined := _, F_joined := F22, B_joined := B22, m_joined := PySem.W.mg_of X G a22, f_cut_parts := f23, d_cut_parts := _, F_cut_parts := F23, B_cut_parts := B23, m_cut_parts := PySem.W.mg_of X G a23, f_whole_by_ways := f24, d_whole_by_ways := _, F_whole_by_ways := F24, B_whole_by_ways := B24, m_whole_by_ways := PySem.W.mg_of X G a24, f__law_cell_at := f25, d__law_cell_at := _, F__law_cell_at := F25, B__law_cell_at := B25, m__law_cell_at := PySem.W.mg_of X G a25, f__law_number := f26, d__law_number := _, F__law_number := F26, B__law_number := B26, m__law_number := PySem.W.mg_of X G a26, f__law_sides := f27, d__law_sides := _, F__law_sides := F27, B__law_sides := B27, m__law_sides := PySem.W.mg_of X G a27, f__law_end := f28, d__law_end := _, F__law_end := F28, B__law_end := B28, m__law_end := PySem.W.mg_of X G a28, f__law_joined := f29, d__law_joined := _, F__law_joined := F29, B__law_joined := B29, m__law_joined := PySem.W.mg_of X G a29, f__law_parts := f30, d__law_parts := _, F__law_parts := F30, B__law_parts := B30, m__law_parts := PySem.W.mg_of X G a30, f__law_product := f31, d__law_product := _, F__law_product := F31, B__law_product := B31, m__law_product := PySem.W.mg_of X G a31, f__law_ways := f32, d__law_ways := _, F__law_ways := F32, B__law_ways := B32, m__law_ways := PySem.W.mg_of X G a32, f__law_due := f33, d__law_due := _, F__law_due := F33, B__law_due := B33, m__law_due := PySem.W.mg_of X G a33, f__law_refused := f34, d__law_refused := _, F__law_refused := F34, B__law_refused := B34, m__law_refused := PySem.W.mg_of X G a34, f_law := fa, d_law := _, F_law := F35, B_law := B35, m_law := PySem.W.mg_of X G a35, n_isinstance := PySem.W.mg_none_of X G z0, n_int := PySem.W.mg_none_of X G z1, n_bool := PySem.W.mg_none_of X G z2, n_len := PySem.W.mg_none_of X G z3, n_range := PySem.W.mg_none_of X G z4, n_abs := PySem.W.mg_none_of X G z5, n_list := PySem.W.mg_none_of X G z6, n_sorted := PySem.W.mg_none_of X G z7, n_min := PySem.W.mg_none_of X G z8, n_max := PySem.W.mg_none_of X G z9, n_ValueError := PySem.W.mg_none_of X G z10, n_str := PySem.W.mg_none_of X G z11, k_LEFT := K_LEFT, m_LEFT := PySem.W.mg_of X G mi_LEFT, k_RIGHT := K_RIGHT, m_RIGHT := PySem.W.mg_of X G mi_RIGHT, a_NARROW := A_NARROW, m_NARROW := PySem.W.mg_of X G da_NARROW, D_NARROW := dt_NARROW, c_NoBound := C_NoBound, m_NoBound := PySem.W.mg_of X G ca_NoBound, x_NoBound := cx_NoBound, X_NoBound := ⟨xc_NoBound_cl, xc_NoBound_ga, xc_NoBound_gt, xc_NoBound_ca, xc_NoBound_gn, xc_NoBound_tk, xc_NoBound_ob, xc_NoBound_be⟩, e_NoBound_NoBound := ce_NoBound_NoBound, k_NoBound_ValueError := ck_NoBound_ValueError }
  exact ⟨PySem.W.fnOf "law" "law" (defArgs s_law) (defBody s_law) (defScope s_law) .none kV35 dc35 pm35 an35 cd35 ct35, fun s v => .of_eq rfl, fun base _ _ => ok_law T⟩
theorem walk {l : PySem.W.OpenLaw} {q : Program} {loose : List Str} {XP : (Str → Option Value) → Heap → Prop} {YP : World → Heap → Prop} {d : DefRec} {K : Params → PySem.W.Frag} (hn : l.most = some 63) (hdf : d.params.defaults = [])
    (hY : ∀ (w : World) (h : Heap), YP w h → (K w.params).In h)
    (F : ∀ (w : World) (mg : Str → Option Value) (fa : Addr) (h : Heap), (K w.params).In h → h.Ns mainGlobals mg → mg d.name = some (.ref fa) →
      ∃ fd : FuncData, (∀ (s : Shared) (u : Value), BindsTo s fd ⟨[u], []⟩ [("_law_script", u)]) ∧ ∀ base : Heap, (K w.params).In base → base.Ns mainGlobals mg → FnOk l.prog w (K w.params) mg base CX0 48 fa fd ["_law_script"] (sp_law (K w.params))) :
    PySem.W.WalkO q loose XP YP l.row.toRowW d [] (fun f vs => PySem.call f vs) :=
  L2.walk_of (n := 63) (k := 48) (x := "_law_script") (CX := fun _ => CX0) (sp := fun w => sp_law (K w.params)) hn (by decide) hdf ⟨rfl, by decide, by decide⟩ hY F (fun _ _ a ns hl _ hS => ⟨a, ns, rfl, hS, hl, fun _ => rfl⟩) fun _ _ _ _ _ z => z
end Mine
open PySem PySem.W PyProof.Rows
namespace PySem.W.Fast
theorem tw17405478242125721808 : True := trivial
theorem tw1928754819996214345 : True := trivial
theorem tw14344392906797889897 : True := trivial
theorem tw5599329781073374813 : True := trivial
theorem tw17148136902211457624 : True := trivial
theorem tw6516204689936474415 : True := trivial
theorem tw5674020626688971981 : True := trivial
theorem tw14801398024375086859 : True := trivial
theorem tw6423918059035172275 : True := trivial
theorem tw9924543004874664877 : True := trivial
theorem tw1683324318563468047 : True := trivial
theorem tw4803036750580536051 : True := trivial
theorem tw13611196298057662889 : True := trivial
theorem tw12668813603013097391 : True := trivial
theorem tw16970945470593130777 : True := trivial
theorem tw6387946980042763756 : True := trivial
theorem tw1554825062144605381 : True := trivial
theorem tw8929427885444972599 : True := trivial
theorem tw9697833380565065133 : True := trivial
theorem tw15102748226222548688 : True := trivial
theorem tw9271989948146517869 : True := trivial
theorem tw395829928056532960 : True := trivial
theorem tw2398198061093033946 : True := trivial
theorem tw7573382146597944070 : True := trivial
theorem tw3842591398914330635 : True := trivial
theorem tw1474137119834070740 : True := trivial
theorem tw3360676772643668862 : True := trivial
theorem tw13293493895101634013 : True := trivial
theorem tw12761387800527826345 : True := trivial
theorem tw10385291047609169390 : True := trivial
theorem tw2039007799334713425 : True := trivial
theorem tw17214623649210741812 : True := trivial
theorem tw12024878183249306077 : True := trivial
theorem tw12442885845737334826 : True := trivial
theorem tw9471468570897696333 : True := trivial
theorem tw6492447170053183539 : True := trivial
theorem tw12136626534877614022 : True := trivial
theorem tw17268939746945734830 : True := trivial
theorem tw8108383319890765887 : True := trivial
theorem tw8378929226981959338 : True := trivial
theorem tw6760820506351521747 : True := trivial
theorem tw9555592581710206083 : True := trivial
theorem tw15470415686878354406 : True := trivial
theorem tw6232213693060610096 : True := trivial
theorem tw10911490558723308746 : True := trivial
theorem tw3488587790056286356 : True := trivial
theorem tw11867211208435544112 : True := trivial
theorem tw3998671231230868695 : True := trivial
theorem tw9586262022474810592 : True := trivial
theorem tw1989440354913055919 : True := trivial
theorem tw14979080540090713010 : True := trivial
theorem tw10885990818122553009 : True := trivial
theorem tw13703151565331474973 : True := trivial
theorem tw16603698256880863180 : True := trivial
theorem tw14351300330373409265 : True := trivial
theorem tw7746015444209288614 : True := trivial
theorem tw3791129823763419570 : True := trivial
theorem tw8241543841507322365 : True := trivial
theorem tw17897405554481385637 : True := trivial
theorem tw9182694327353807247 : True := trivial
theorem tw9101113189837347274 : True := trivial
theorem tw4891500262973428090 : True := trivial
theorem tw13004818209249822790 : True := trivial
theorem tw2127202352232770117 : True := trivial
theorem tw10872383300762430588 : True := trivial
theorem tw285267394864035927 : True := trivial
theorem tw18103161557315722866 : True := trivial
theorem tw3587590990414409184 : True := trivial
theorem tw15472630274405200297 : True := trivial
theorem tw1182811658037877786 : True := trivial
theorem tw13588847834111543116 : True := trivial
theorem tw4612298207939690703 : True := trivial
theorem tw208518809574934305 : True := trivial
theorem tw3162064438822043556 : True := trivial
theorem tw11051831837332070628 : True := trivial
theorem tw6679899211232795274 : True := trivial
theorem tw16983332101785939693 : True := trivial
theorem tw17803065788254141295 : True := trivial
theorem tw17416107208898951386 : True := trivial
theorem tw10161142313105881335 : True := trivial
theorem tw1917007205767369116 : True := trivial
theorem tw3095658408554065544 : True := trivial
theorem tw15342234767154542329 : True := trivial
theorem tw15564898289677120766 : True := trivial
theorem tw14523891413802384336 : True := trivial
theorem tw4495487166929307268 : True := trivial
theorem tw9463871113991760310 : True := trivial
theorem tw11016867330447097802 : True := trivial
theorem tw13145296061460496886 : True := trivial
theorem tw14117867347245539114 : True := trivial
theorem tw17377735478722420129 : True := trivial
theorem tw12523438153086799687 : True := trivial
theorem tw6265826760929716718 : True := trivial
theorem tw7258467282181840838 : True := trivial
theorem tw4393264574368690310 : True := trivial
theorem tw17500861816014692349 : True := trivial
theorem tw266941807780024324 : True := trivial
theorem tw1889450185226413754 : True := trivial
theorem tw2443906639397613599 : True := trivial
theorem tw150736421239557812 : True := trivial
theorem tw16200903636083946910 : True := trivial
theorem tw9667876981928159782 : True := trivial
theorem tw2760525418061189951 : True := trivial
theorem tw9344343072846713764 : True := trivial
theorem tw12524117053592659457 : True := trivial
theorem tw13714886048117905388 : True := trivial
theorem tw12918867034466542918 : True := trivial
theorem tw14054696206827831075 : True := trivial
theorem tw5778066725933084636 : True := trivial
theorem tw1587008455613104153 : True := trivial
theorem tw827979616868616795 : True := trivial
theorem tw9986850934540464965 : True := trivial
theorem tw18185791503949884348 : True := trivial
theorem tw10478488362590910002 : True := trivial
theorem tw11514312005754061040 : True := trivial
theorem tw9624206296773812911 : True := trivial
theorem tw6492246552379756004 : True := trivial
theorem tw8806835105759629598 : True := trivial
theorem tw14199370037751257138 : True := trivial
theorem tw4529134015789536997 : True := trivial
theorem tw8495758297934836227 : True := trivial
theorem tw18293187380731010819 : True := trivial
theorem tw9096017939470984993 : True := trivial
theorem tw4031407253895843039 : True := trivial
theorem tw14049756168156658051 : True := trivial
theorem tw18348835707310987172 : True := trivial
theorem tw18267041226225873898 : True := trivial
theorem tw12445414020527143013 : True := trivial
theorem tw4034159876933689517 : True := trivial
theorem tw13907297566172255379 : True := trivial
theorem tw9868889205319557630 : True := trivial
theorem tw980990752511037677 : True := trivial
theorem tw376277180720553665 : True := trivial
theorem tw8447965415861453592 : True := trivial
theorem tw16959315401065491069 : True := trivial
theorem tw7968092325818738006 : True := trivial
theorem tw14294644463276220117 : True := trivial
theorem tw9402513599369791715 : True := trivial
theorem tw9879307685714608165 : True := trivial
theorem tw3016425107926126494 : True := trivial
theorem tw17940052984841462906 : True := trivial
theorem tw1717832298964271861 : True := trivial
theorem tw6077805947029909625 : True := trivial
theorem tw16399892878049757647 : True := trivial
theorem tw5932287758453489682 : True := trivial
theorem tw14200221625388280623 : True := trivial
theorem tw2152427682267953017 : True := trivial
theorem tw5299172965411464369 : True := trivial
theorem tw5999542937341581576 : True := trivial
theorem tw16975066943702991934 : True := trivial
theorem tw11806951184428432288 : True := trivial
theorem tw4420267928032114005 : True := trivial
theorem tw237001403342087961 : True := trivial
theorem tw8424944717433063483 : True := trivial
theorem tw5893087844375081922 : True := trivial
theorem tw18024911114274295781 : True := trivial
theorem tw5822510781919562299 : True := trivial
theorem tw15755964517881093546 : True := trivial
theorem tw206583734304618614 : True := trivial
theorem tw6753918102333436175 : True := trivial
theorem tw9315265187575328055 : True := trivial
theorem tw15910581440682767261 : True := trivial
theorem tw9107788734648410007 : True := trivial
theorem tw13604248241295849965 : True := trivial
theorem tw13202827167661735106 : True := trivial
theorem tw9590315674023253913 : True := trivial
theorem tw5376590889539856332 : True := trivial
theorem tw12869996687483775361 : True := trivial
theorem tw13655974995266088551 : True := trivial
theorem tw8798678184760891475 : True := trivial
theorem tw11570110089743171351 : True := trivial
theorem tw16191582053168491644 : True := trivial
theorem tw17544314086376750700 : True := trivial
theorem tw5867696749031752701 : True := trivial
theorem tw8300846177872783013 : True := trivial
theorem tw17762903228101559516 : True := trivial
theorem tw9444341574284669770 : True := trivial
theorem tw11604891270142487226 : True := trivial
theorem tw16991420643122082301 : True := trivial
theorem tw8209548016382739177 : True := trivial
theorem tw3423092114958132822 : True := trivial
theorem tw2406074765539077064 : True := trivial
theorem tw11317551618213791040 : True := trivial
theorem tw11170176881509524271 : True := trivial
theorem tw10660472281684798320 : True := trivial
theorem tw6587893536528011760 : True := trivial
theorem tw16149816819543728102 : True := trivial
theorem tw2242379806181496821 : True := trivial
theorem tw7353804383582563756 : True := trivial
theorem tw15438597085555732076 : True := trivial
theorem tw753389251121178795 : True := trivial
theorem tw13518121250735044731 : True := trivial
theorem tw5514117214401420407 : True := trivial
theorem tw11245754565762076812 : True := trivial
theorem tw16096282991402577337 : True := trivial
theorem tw12764621802938742830 : True := trivial
theorem tw13782675192897147655 : True := trivial
theorem tw168091455756450587 : True := trivial
theorem tw9554502615428597366 : True := trivial
theorem tw16772367206541287006 : True := trivial
theorem tw3340462467547523809 : True := trivial
theorem tw9212001944291171763 : True := trivial
theorem tw12263392322940300971 : True := trivial
theorem tw8716122294821638013 : True := trivial
theorem tw6389993870713502124 : True := trivial
theorem tw1157665802579362163 : True := trivial
theorem tw4589483991416154381 : True := trivial
theorem tw12106367210945511351 : True := trivial
theorem tw13369932732205692144 : True := trivial
theorem tw14267500452109446020 : True := trivial
theorem tw8001199402353437330 : True := trivial
theorem tw18102563561131679065 : True := trivial
theorem tw8725152305380577073 : True := trivial
theorem tw16343857336886613154 : True := trivial
theorem tw4659273112318508572 : True := trivial
theorem tw4768932572061038587 : True := trivial
theorem tw4551947102944367652 : True := trivial
theorem tw6951819438381753235 : True := trivial
theorem tw16103849592827137380 : True := trivial
theorem tw17787387196609460100 : True := trivial
theorem tw16323718483306321137 : True := trivial
theorem tw17476358555741077314 : True := trivial
theorem tw644772580079841170 : True := trivial
theorem tw379040408800116964 : True := trivial
theorem tw2174943985350102054 : True := trivial
theorem tw9590574989245096601 : True := trivial
theorem tw14543917260804905367 : True := trivial
theorem tw16950089424398139016 : True := trivial
theorem tw10639055289516892376 : True := trivial
theorem tw7196681542218291168 : True := trivial
theorem tw9586731700403656586 : True := trivial
theorem tw17607993377468795993 : True := trivial
theorem tw14625977148732161103 : True := trivial
theorem tw40507247378603988 : True := trivial
theorem tw16126295654352025764 : True := trivial
theorem tw5392340861455798181 : True := trivial
theorem tw13681112742881389365 : True := trivial
theorem tw3259951073453457413 : True := trivial
theorem tw655207426684168908 : True := trivial
theorem tw5709976711720602954 : True := trivial
theorem tw17430747595617680388 : True := trivial
theorem tw11247299506679694750 : True := trivial
theorem tw9676464893942063538 : True := trivial
theorem tw4685029781975049724 : True := trivial
theorem tw2671161270639253027 : True := trivial
theorem tw5597429121247955812 : True := trivial
theorem tw10339715668045426084 : True := trivial
theorem tw11427352325809643561 : True := trivial
theorem tw16680970737720218869 : True := trivial
end PySem.W.Fast
set_option maxRecDepth 100000 in
set_option maxHeartbeats 0 in
theorem PySem.Challenge.cw_floorcurves_k26_whole_by_ways_holds : PySem.Challenge.rw_floorcurves_k26_whole_by_ways.Holds := by
  w_on; o_law; k_head; (case hw => w_witness2)
  k_fill
  refine Mine.walk (l := PySem.Challenge.rw_floorcurves_k26_whole_by_ways) rfl rfl (fun w h Y => PySem.W.kIn_of Y) ?F
  case F =>
    intro w mg fa h KX G hmg
    refine' Mine.all_mk KX G hmg ?a0 ?l0 ?c0 ?k0 ?a1 ?l1 ?c1 ?k1 ?a2 ?l2 ?c2 ?k2 ?a3 ?l3 ?c3 ?k3 ?a4 ?l4 ?c4 ?k4 ?a5 ?l5 ?c5 ?k5 ?a6 ?l6 ?c6 ?k6 ?a7 ?l7 ?c7 ?k7 ?a8 ?l8 ?c8 ?k8 ?a9 ?l9 ?c9 ?k9 ?a10 ?l10 ?c10 ?k10 ?a11 ?l11 ?c11 ?k11 ?a12 ?l12 ?c12 ?k12 ?a13 ?l13 ?c13 ?k13 ?a14 ?l14 ?c14 ?k14 ?a15 ?l15 ?c15 ?k15 ?a16 ?l16 ?c16 ?k16 ?a17 ?l17 ?c17 ?k17 ?a18 ?l18 ?c18 ?k18 ?a19 ?l19 ?c19 ?k19 ?a20 ?l20 ?c20 ?k20 ?a21 ?l21 ?c21 ?k21 ?a22 ?l22 ?c22 ?k22 ?a23 ?l23 ?c23 ?k23 ?a24 ?l24 ?c24 ?k24 ?a25 ?l25 ?c25 ?k25 ?a26 ?l26 ?c26 ?k26 ?a27 ?l27 ?c27 ?k27 ?a28 ?l28 ?c28 ?k28 ?a29 ?l29 ?c29 ?k29 ?a30 ?l30 ?c30 ?k30 ?a31 ?l31 ?c31 ?k31 ?a32 ?l32 ?c32 ?k32 ?a33 ?l33 ?c33 ?k33 ?a34 ?l34 ?c34 ?k34 ?a35 ?l35 ?c35 ?k35 ?z0 ?z1 ?z2 ?z3 ?z4 ?z5 ?z6 ?z7 ?z8 ?z9 ?z10 ?z11 ?mi_LEFT ?mi_RIGHT ?da_NARROW ?dt_NARROW ?ca_NoBound ?cx_NoBound ?xc_NoBound_cl ?xc_NoBound_ga ?xc_NoBound_gt ?xc_NoBound_ca ?xc_NoBound_gn ?xc_NoBound_tk ?xc_NoBound_ob ?xc_NoBound_be ?ce_NoBound_NoBound ?ck_NoBound_ValueError
    (case a0 => k_is)
    (case l0 => k_is)
    (case c0 => k_is)
    (case k0 => k_is)
    (case a1 => k_is)
    (case l1 => k_is)
    (case c1 => k_is)
    (case k1 => k_is)
    (case a2 => k_is)
    (case l2 => k_is)
    (case c2 => k_is)
    (case k2 => k_is)
    (case a3 => k_is)
    (case l3 => k_is)
    (case c3 => k_is)
    (case k3 => k_is)
    (case a4 => k_is)
    (case l4 => k_is)
    (case c4 => k_is)
    (case k4 => k_is)
    (case a5 => k_is)
    (case l5 => k_is)
    (case c5 => k_is)
    (case k5 => k_is)
    (case a6 => k_is)
    (case l6 => k_is)
    (case c6 => k_is)
    (case k6 => k_is)
    (case a7 => k_is)
    (case l7 => k_is)
    (case c7 => k_is)
    (case k7 => k_is)
    (case a8 => k_is)
    (case l8 => k_is)
    (case c8 => k_is)
    (case k8 => k_is)
    (case a9 => k_is)
    (case l9 => k_is)
    (case c9 => k_is)
    (case k9 => k_is)
    (case a10 => k_is)
    (case l10 => k_is)
    (case c10 => k_is)
    (case k10 => k_is)
    (case a11 => k_is)
    (case l11 => k_is)
    (case c11 => k_is)
    (case k11 => k_is)
    (case a12 => k_is)
    (case l12 => k_is)
    (case c12 => k_is)
    (case k12 => k_is)
    (case a13 => k_is)
    (case l13 => k_is)
    (case c13 => k_is)
    (case k13 => k_is)
    (case a14 => k_is)
    (case l14 => k_is)
    (case c14 => k_is)
    (case k14 => k_is)
    (case a15 => k_is)
    (case l15 => k_is)
    (case c15 => k_is)
    (case k15 => k_is)
    (case a16 => k_is)
    (case l16 => k_is)
    (case c16 => k_is)
    (case k16 => k_is)
    (case a17 => k_is)
    (case l17 => k_is)
    (case c17 => k_is)
    (case k17 => k_is)
    (case a18 => k_is)
    (case l18 => k_is)
    (case c18 => k_is)
    (case k18 => k_is)
    (case a19 => k_is)
    (case l19 => k_is)
    (case c19 => k_is)
    (case k19 => k_is)
    (case a20 => k_is)
    (case l20 => k_is)
    (case c20 => k_is)
    (case k20 => k_is)
    (case a21 => k_is)
    (case l21 => k_is)
    (case c21 => k_is)
    (case k21 => k_is)
    (case a22 => k_is)
    (case l22 => k_is)
    (case c22 => k_is)
    (case k22 => k_is)
    (case a23 => k_is)
    (case l23 => k_is)
    (case c23 => k_is)
    (case k23 => k_is)
    (case a24 => k_is)
    (case l24 => k_is)
    (case c24 => k_is)
    (case k24 => k_is)
    (case a25 => k_is)
    (case l25 => k_is)
    (case c25 => k_is)
    (case k25 => k_is)
    (case a26 => k_is)
    (case l26 => k_is)
    (case c26 => k_is)
    (case k26 => k_is)
    (case a27 => k_is)
    (case l27 => k_is)
    (case c27 => k_is)
    (case k27 => k_is)
    (case a28 => k_is)
    (case l28 => k_is)
    (case c28 => k_is)
    (case k28 => k_is)
    (case a29 => k_is)
    (case l29 => k_is)
    (case c29 => k_is)
    (case k29 => k_is)
    (case a30 => k_is)
    (case l30 => k_is)
    (case c30 => k_is)
    (case k30 => k_is)
    (case a31 => k_is)
    (case l31 => k_is)
    (case c31 => k_is)
    (case k31 => k_is)
    (case a32 => k_is)
    (case l32 => k_is)
    (case c32 => k_is)
    (case k32 => k_is)
    (case a33 => k_is)
    (case l33 => k_is)
    (case c33 => k_is)
    (case k33 => k_is)
    (case a34 => k_is)
    (case l34 => k_is)
    (case c34 => k_is)
    (case k34 => k_is)
    (case a35 => k_is)
    (case l35 => k_is)
    (case c35 => k_is)
    (case k35 => k_is)
    (case z0 => k_is)
    (case z1 => k_is)
    (case z2 => k_is)
    (case z3 => k_is)
    (case z4 => k_is)
    (case z5 => k_is)
    (case z6 => k_is)
    (case z7 => k_is)
    (case z8 => k_is)
    (case z9 => k_is)
    (case z10 => k_is)
    (case z11 => k_is)
    (case mi_LEFT => k_is)
    (case mi_RIGHT => k_is)
    (case da_NARROW => k_is)
    (case dt_NARROW => first | k_is | kit_is | kts_exm | kernel_rfl)
    (case ca_NoBound => first | k_is | kit_is | kts_exm | kernel_rfl)
    (case cx_NoBound => first | k_is | kit_is | kts_exm | kernel_rfl)
    (case xc_NoBound_cl => first | k_is | kit_is | kts_exm | kernel_rfl)
    (case xc_NoBound_ga => first | k_is | kit_is | kts_exm | kernel_rfl)
    (case xc_NoBound_gt => first | k_is | kit_is | kts_exm | kernel_rfl)
    (case xc_NoBound_ca => first | k_is | kit_is | kts_exm | kernel_rfl)
    (case xc_NoBound_gn => first | k_is | kit_is | kts_exm | kernel_rfl)
    (case xc_NoBound_tk => first | k_is | kit_is | kts_exm | kernel_rfl)
    (case xc_NoBound_ob => first | k_is | kit_is | kts_exm | kernel_rfl)
    (case xc_NoBound_be => first | k_is | kit_is | kts_exm | kernel_rfl)
    (case ce_NoBound_NoBound => first | k_is | kit_is | kts_exm | kernel_rfl)
    (case ck_NoBound_ValueError => first | k_is | kit_is | kts_exm | kernel_rfl)
#print axioms PySem.Challenge.cw_floorcurves_k26_whole_by_ways_holds
