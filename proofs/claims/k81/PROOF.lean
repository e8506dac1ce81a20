import PyProof.Rows.All
import Wide.All
import OpenK.AllK
import Wide.FinOn
import PySem.Challenge.RW_floorcurves_k81_no_drawing_text
import Lean
import PyProof.EqAt
import PyProof.EqKinds
import PyProof.TupleCall
local macro_rules | `(tactic| omega) => `(tactic| lia)
set_option pp.maxSteps 400
set_option Elab.async false
set_option linter.all false
set_option maxRecDepth 100000
set_option maxHeartbeats 4000000
-- CHANGE: your row's module here, as the last of these rows
set_option Elab.async false
set_option linter.all false
set_option maxRecDepth 100000
/-! THE HAND LAYER, for ints, bools, texts, own classes, LISTS and tuples (index, slices, in, append, pop ..), calls, loops. Paste it whole ahead of your own text; what your proof does not reach may be deleted. -/
namespace L2
open PySem PySem.Spec PyProof.Rows

/-- a key: an int or a str -/
abbrev Key := Sum Int Str
def keyIs : Key → Value → Bool
  | .inl k, v => Value.isInt k v
  | .inr x, v => Value.isStrOf x v
def keyH (w : World) : Key → Int
  | .inl k => hashInt k
  | .inr x => hashStr w x
theorem keyIs_shape : ∀ {k : Key} {v : Value}, keyIs k v = true → (∃ i t, k = Sum.inl i ∧ v = Value.int i t) ∨ (∃ x t, k = Sum.inr x ∧ v = Value.str x t)
  | .inl i, v, h => by
    obtain ⟨t, e⟩ := Value.isInt_shape (k := i) (v := v) h
    exact .inl ⟨i, t, rfl, e⟩
  | .inr x, v, h => by
    obtain ⟨t, e⟩ := Value.isStrOf_shape (x := x) (v := v) h
    exact .inr ⟨x, t, rfl, e⟩
theorem key_ll (a b : Int) : decide ((Sum.inl a : Key) = Sum.inl b) = (a == b) := by
  by_cases e : a = b
  · subst e; simp
  · have h : ¬ (Sum.inl a : Key) = Sum.inl b := fun q => e (Sum.inl.inj q)
    rw [decide_eq_false h]
    exact (beq_eq_false_iff_ne.mpr e).symm
theorem key_rr (a b : Str) : decide ((Sum.inr a : Key) = Sum.inr b) = decide (a = b) := by
  by_cases e : a = b
  · subst e; simp
  · have h : ¬ (Sum.inr a : Key) = Sum.inr b := fun q => e (Sum.inr.inj q)
    rw [decide_eq_false h, decide_eq_false e]
theorem key_lr (a : Int) (b : Str) : decide ((Sum.inl a : Key) = Sum.inr b) = false := decide_eq_false (fun q => nomatch q)
theorem key_rl (a : Str) (b : Int) : decide ((Sum.inr a : Key) = Sum.inl b) = false := decide_eq_false (fun q => nomatch q)

def mixKind (prog : Program) (w : World) : PySem.KeyKind prog w Key where
  is := keyIs
  hash := keyH w
  inj := fun v a b ha hb => by
    rcases keyIs_shape ha with ⟨i, t, rfl, rfl⟩ | ⟨x, t, rfl, rfl⟩
    · rcases keyIs_shape hb with ⟨j, u, rfl, e⟩ | ⟨y, u, rfl, e⟩
      · injection e with e1 _; rw [e1]
      · exact nomatch e
    · rcases keyIs_shape hb with ⟨j, u, rfl, e⟩ | ⟨y, u, rfl, e⟩
      · exact nomatch e
      · injection e with e1 _; rw [e1]
  byValue := fun k v h => by
    rcases keyIs_shape h with ⟨i, t, rfl, rfl⟩ | ⟨x, t, rfl, rfl⟩ <;> rfl
  pyHash := fun hv h => by
    rcases keyIs_shape hv with ⟨i, t, rfl, rfl⟩ | ⟨x, t, rfl, rfl⟩
    · exact wpAny_pyHash_int h
    · exact wpAny_pyHash_str h
  eqBool := fun hu hv h => by
    rcases keyIs_shape hu with ⟨i, t, rfl, rfl⟩ | ⟨x, t, rfl, rfl⟩
    · rcases keyIs_shape hv with ⟨j, u, rfl, rfl⟩ | ⟨y, u, rfl, rfl⟩
      · rw [key_ll] at h; exact wpAny_eqBool_int h
      · rw [key_lr] at h; exact SeqAt.EqAt.int_str i t y u _ _ _ _ h
    · rcases keyIs_shape hv with ⟨j, u, rfl, rfl⟩ | ⟨y, u, rfl, rfl⟩
      · rw [key_rl] at h; exact SeqAt.EqAt.str_int x t j u _ _ _ _ h
      · rw [key_rr] at h; exact wpAny_eqBool_str h
  «strs» := fun k x t v h => by
    rcases keyIs_shape h with ⟨i, u, rfl, e⟩ | ⟨y, u, rfl, e⟩
    · exact nomatch e
    · injection e with e1 _
      subst e1
      cases v <;> rfl

end L2

namespace L2
open PySem PySem.Spec PyProof.Rows

/-- a value, without the heap -/
inductive V where
  | non | bl (b : Bool) | int (i : Int) | str (x : Str) | byt (b : Array UInt8) | flt (b : UInt64) | ref (a : Addr) | ty (n : String)
  deriving DecidableEq

def RelV : V → Value → Prop
  | .non, u => u = Value.none
  | .bl b, u => u = Value.bool b
  | .int i, u => ∃ t, u = Value.int i t
  | .str x, u => ∃ t, u = Value.str x t
  | .byt b, u => ∃ t, u = Value.bytes b t
  | .flt b, u => ∃ t, u = Value.float b t
  | .ref a, u => u = Value.ref a
  | .ty n, u => u = Value.type n

abbrev Vals : List V → List Value → Prop := Paired RelV
theorem Vals.length {xs : List V} {us : List Value} (r : Vals xs us) : xs.length = us.length := Paired.length r
theorem Vals.get : ∀ {xs : List V} {us : List Value} {i : Nat} {x : V}, Vals xs us → xs[i]? = some x → ∃ u, us[i]? = some u ∧ RelV x u
  | _, _, _, _, .nil, e => by simp at e
  | _, _, 0, _, .cons r _, e => by simp at e; subst e; exact ⟨_, rfl, r⟩
  | _, _, i + 1, x, .cons _ t, e => by
    obtain ⟨u, h1, h2⟩ := Vals.get (i := i) (x := x) t (by simpa using e)
    exact ⟨u, by simpa using h1, h2⟩
theorem Vals.set {x : V} {u : Value} (r : RelV x u) : ∀ {xs : List V} {us : List Value} (i : Nat), Vals xs us → Vals (xs.set i x) (us.set i u)
  | _, _, _, .nil => .nil
  | _, _, 0, .cons _ t => .cons r t
  | _, _, i + 1, .cons q t => .cons q (Vals.set r i t)
theorem Vals.append : ∀ {xs ys : List V} {us ws : List Value}, Vals xs us → Vals ys ws → Vals (xs ++ ys) (us ++ ws)
  | _, _, _, _, .nil, s => s
  | _, _, _, _, .cons r t, s => .cons r (Vals.append t s)
def RelO : Option V → Option Value → Prop
  | some v, some u => RelV v u
  | none, none => True
  | _, _ => False
def KV {κ : Type} : List (κ × V) → List (κ × Value) → Prop := Paired fun (p : κ × V) (q : κ × Value) => p.1 = q.1 ∧ RelV p.2 q.2

/-- a key of a dict (00_mix): an int or a text -/
def kV : Key → V
  | .inl i => .int i
  | .inr x => .str x

/-- what stands at a tracked address -/
inductive HO where
  /-- a list -/
  | lst (xs : List V)
  /-- a tuple (never changes) -/
  | tup (xs : List V)
  /-- a dict whose keys are ints and texts; one whose keys are tuples of ints and texts (the empty one is both) -/
  | dK (kvs : List (Key × V)) | dT (kvs : List (List Key × V))
  /-- a set of ints: its members, its size -/
  | set (S : Int → Bool) (n : Nat)
  /-- an instance of the class at C, its dict at dx, its attributes -/
  | ins (C dx : Addr) (fs : List (Str × V))
  /-- the dict of the instance at x -/
  | own (x : Addr)
  /-- the dict of an exception -/
  | xd (fs : List (Str × V))
  /-- a bound method, f of x -/
  | met (f x : Addr)
  /-- a range object lo, lo + 1, .. below hi -/
  | rng (lo hi : Int)
  /-- a thing that is known to the object (the script; a dict while a loop walks it): read, never written while it is so -/
  | frz (o : Obj) (u : HO)
  /-- a code object's table -/
  | tbl (ps : Array Value)
  /-- any other thing, by what is true of its one object (a def of one's own: SetO a S n := HO.ext fun h => ..) -/
  | ext (φ : Heap → Prop)

abbrev Hp := Addr → Option HO
def upd (H : Hp) (a : Addr) (o : HO) : Hp := fun b => if b = a then some o else H b
theorem upd_same {H : Hp} {a : Addr} {o : HO} : upd H a o a = some o := by unfold upd; rw [if_pos rfl]
theorem upd_ne {H : Hp} {a b : Addr} {o : HO} (h : b ≠ a) : upd H a o b = H b := by unfold upd; rw [if_neg h]
theorem ne_of_none {H : Hp} {a b : Addr} {o : HO} (h : H a = some o) (h' : H b = none) : a ≠ b := by
  intro e; subst e; rw [h] at h'; cases h'

section
variable (P : Program) (w : World)
def ObjOk (H : Hp) (h : Heap) (a : Addr) : HO → Prop
  | .lst xs => xs.length ≤ sizeLine ∧ ∃ (its : List Value) (n : Nat), Vals xs its ∧ h.get? a = some { cls := .type "list", data := .seq its.toArray n }
  | .tup xs => xs.length ≤ sizeLine ∧ ∃ its : List Value, Vals xs its ∧ IsTup h a its.toArray
  | .dK kvs => kvs.length ≤ sizeLine ∧ (a == sysModules) = false ∧ ∃ vs, KV kvs vs ∧ h.DictOf (mixKind P w) a vs
  | .dT kvs => kvs.length ≤ sizeLine ∧ (a == sysModules) = false ∧ ∃ xs : List (List Key × Addr × Value),
      Paired (fun (p : List Key × V) (q : List Key × Addr × Value) => p.1 = q.1 ∧ H q.2.1 = some (.tup (p.1.map kV)) ∧ RelV p.2 q.2.2) kvs xs ∧
      ∃ o es ep, h.get? a = some o ∧ o.ExactDict ∧ o.data = .dict es ep ∧ es.toList = xs.map (entryOfKey (tupleKind (mixKind P w))) ∧ (xs.map (·.1)).Nodup
  | .set S n => h.SetOf (intKind P w) a S n
  | .ins C dx fs => H dx = some (.own a) ∧ fs.length ≤ 1000 ∧ dx ≠ a ∧ h.get? a = some (PySem.W.instObj C dx) ∧
      ∃ mA, h.Ns1 dx mA ∧ (∀ f, RelO (fs.lookup f) (mA f)) ∧ PySem.Within mA (fs.map (·.1))
  | .own _ => ∃ o, h.get? a = some o
  | .xd fs => ∃ mA, h.Ns1 a mA ∧ ∀ f, RelO (fs.lookup f) (mA f)
  | .rng lo hi => ∃ t u v, h.get? a = some { cls := .type "range", data := .fields #[.int lo t, .int hi u, .int 1 v] }
  | .frz o u => h.get? a = some o ∧ ObjOk H h a u
  | .tbl ps => h.get? a = some { cls := .none, data := .fields ps }
  | .met f x => h.get? a = some (PySem.W.methodObj (.ref f) (.ref x))
  | .ext φ => φ h ∧ (∃ o, h.get? a = some o) ∧ ∀ h1 h2 : Heap, φ h1 → (∀ o, h1.get? a = some o → h2.get? a = some o) → φ h2
/-- the abstract heap is held -/
def HOk (H : Hp) (h : Heap) : Prop := ∀ a o, H a = some o → ObjOk P w H h a o
end

section
variable {P : Program} {w : World} {H H' : Hp} {h h' : Heap} {a : Addr} {o : HO}
theorem ObjOk.lt (x : ObjOk P w H h a o) : a < h.objs.size := by
  cases o with
  | lst xs => obtain ⟨_, _, _, _, e⟩ := x; exact Heap.lt_size e
  | tup xs => obtain ⟨_, _, _, p⟩ := x; exact p.lt
  | dK kvs => obtain ⟨_, _, _, _, o, _, _, e, _⟩ := x; exact Heap.lt_size e
  | dT kvs => obtain ⟨_, _, _, _, o, _, _, e, _⟩ := x; exact Heap.lt_size e
  | set S n => obtain ⟨o, _, _, _, e, _⟩ := x; exact Heap.lt_size e
  | ins C dx fs => obtain ⟨_, _, _, e, _⟩ := x; exact Heap.lt_size e
  | own y => obtain ⟨_, e⟩ := x; exact Heap.lt_size e
  | xd fs => obtain ⟨_, ⟨_, _, _, e, _⟩, _⟩ := x; exact Heap.lt_size e
  | rng lo hi => obtain ⟨_, _, _, e⟩ := x; exact Heap.lt_size e
  | frz ob u => obtain ⟨e, _⟩ := x; exact Heap.lt_size e
  | tbl ps => exact Heap.lt_size (show h.get? a = some _ from x)
  | met f y => exact Heap.lt_size (show h.get? a = some _ from x)
  | ext φ => obtain ⟨_, ⟨_, e⟩, _⟩ := x; exact Heap.lt_size e
theorem Paired.mapP {α β : Type} {F G : α → β → Prop} : ∀ {l₁ : List α} {l₂ : List β}, Paired F l₁ l₂ → (∀ a b, F a b → G a b) → Paired G l₁ l₂
  | _, _, .nil, _ => .nil
  | _, _, .cons r t, f => .cons (f _ _ r) (Paired.mapP t f)
/-- what an object's description leans on: its own object, its own dict, the tuples -/
theorem ObjOk.stay (x : ObjOk P w H h a o) (k : ∀ b u, (b = a ∨ H b = some (.own a)) → h.get? b = some u → h'.get? b = some u)
    (ho : ∀ b, H b = some (.own a) → H' b = some (.own a)) (ht : ∀ b xs, H b = some (.tup xs) → H' b = some (.tup xs)) : ObjOk P w H' h' a o := by
  induction o with
  | lst xs => obtain ⟨z, its, n, r, e⟩ := x; exact ⟨z, its, n, r, k _ _ (.inl rfl) e⟩
  | tup xs => obtain ⟨z, its, r, ob, e, c⟩ := x; exact ⟨z, its, r, ob, k _ _ (.inl rfl) e, c⟩
  | dK kvs => obtain ⟨z, y, vs, r, ob, es, ep, e, c⟩ := x; exact ⟨z, y, vs, r, ob, es, ep, k _ _ (.inl rfl) e, c⟩
  | dT kvs =>
    obtain ⟨z, y, xs, r, ob, es, ep, e, c⟩ := x
    exact ⟨z, y, xs, Paired.mapP r fun p q z => ⟨z.1, ht _ _ z.2.1, z.2.2⟩, ob, es, ep, k _ _ (.inl rfl) e, c⟩
  | set S n => obtain ⟨ob, es, ep, t, e, c⟩ := x; exact ⟨ob, es, ep, t, k _ _ (.inl rfl) e, c⟩
  | ins C dx fs =>
    obtain ⟨d, z, ne, e, mA, ⟨od, es, ep, e2, c⟩, r⟩ := x
    exact ⟨ho _ d, z, ne, k _ _ (.inl rfl) e, mA, ⟨od, es, ep, k _ _ (.inr d) e2, c⟩, r⟩
  | own y => obtain ⟨ob, e⟩ := x; exact ⟨ob, k _ _ (.inl rfl) e⟩
  | xd fs => obtain ⟨mA, ⟨od, es, ep, e, c⟩, r⟩ := x; exact ⟨mA, ⟨od, es, ep, k _ _ (.inl rfl) e, c⟩, r⟩
  | rng lo hi => obtain ⟨t, u, v, e⟩ := x; exact ⟨t, u, v, k _ _ (.inl rfl) e⟩
  | frz ob u ih => obtain ⟨e, q⟩ := x; exact ⟨k _ _ (.inl rfl) e, ih q⟩
  | tbl ps =>
    have e : h.get? a = some { cls := .none, data := .fields ps } := x
    show h'.get? a = some { cls := .none, data := .fields ps }
    exact k a _ (.inl rfl) e
  | met f y =>
    have e : h.get? a = some (PySem.W.methodObj (.ref f) (.ref y)) := x
    show h'.get? a = some (PySem.W.methodObj (.ref f) (.ref y))
    exact k a _ (.inl rfl) e
  | ext φ => obtain ⟨p, ⟨o, e⟩, st⟩ := x; exact ⟨st _ _ p fun o q => k _ _ (.inl rfl) q, ⟨o, k _ _ (.inl rfl) e⟩, st⟩
theorem HOk.lt (x : HOk P w H h) (e : H a = some o) : a < h.objs.size := (x a o e).lt
theorem HOk.fresh (x : HOk P w H h) (e : h.objs.size ≤ a) : H a = none := by
  cases q : H a with
  | none => rfl
  | some u => exact absurd (Nat.lt_of_lt_of_le (x.lt q) e) (Nat.lt_irrefl _)
/-- every object of the heap is kept -/
theorem HOk.kept (x : HOk P w H h) (k : ∀ b u, h.get? b = some u → h'.get? b = some u) : HOk P w H h' := fun a o e =>
  (x a o e).stay (fun b u _ q => k b u q) (fun _ q => q) fun _ _ q => q
/-- a new object is laid and tracked -/
theorem HOk.laid (x : HOk P w H h) (k : ∀ b u, h.get? b = some u → h'.get? b = some u) (hp : h.objs.size ≤ a) (new : ObjOk P w (upd H a o) h' a o) : HOk P w (upd H a o) h' := fun b u e => by
  have hn := x.fresh hp
  by_cases hb : b = a
  · subst hb; rw [upd_same] at e; cases e; exact new
  · rw [upd_ne hb] at e
    exact (x b u e).stay (fun c v _ q => k c v q) (fun c q => by rw [upd_ne (ne_of_none q hn)]; exact q) fun c xs q => by rw [upd_ne (ne_of_none q hn)]; exact q
end

/-- what may be read as u: it is u, or a known u -/
def Rd (H : Hp) (a : Addr) (u : HO) : Prop := H a = some u ∨ ∃ o, H a = some (.frz o u)
theorem Rd.ok {P : Program} {w : World} {H : Hp} {h : Heap} {a : Addr} {u : HO} (r : Rd H a u) (x : HOk P w H h) : ObjOk P w H h a u := by
  rcases r with r | ⟨o, r⟩
  · exact x a u r
  · obtain ⟨_, q⟩ := x a _ r
    exact q
/-- what may be written -/
def Mut : Option HO → Prop
  | some (.lst _) => True
  | some (.dK _) => True
  | some (.dT _) => True
  | some (.set _ _) => True
  | some (.ins _ _ _) => True
  | some (.ext _) => True
  | _ => False
section
variable {P : Program} {w : World} {H : Hp} {h h' : Heap} {x e : Addr} {o' : HO}
/-- the object at e is changed: x itself, or the dict of the instance x -/
theorem HOk.write (ok : HOk P w H h) (mu : Mut (H x)) (he : e = x ∨ H e = some (.own x)) (k : ∀ b u, b ≠ e → h.get? b = some u → h'.get? b = some u) (heo : ∃ u, h'.get? e = some u)
    (new : ObjOk P w (upd H x o') h' x o') : HOk P w (upd H x o') h' := fun b u q => by
  have nown : ∀ c y, H c = some (.own y) → c ≠ x := fun c y r z => by subst z; rw [r] at mu; exact mu
  have ntup : ∀ c xs, H c = some (.tup xs) → c ≠ x := fun c xs r z => by subst z; rw [r] at mu; exact mu
  by_cases hb : b = x
  · subst hb; rw [upd_same] at q; cases q; exact new
  · rw [upd_ne hb] at q
    by_cases hbe : b = e
    · have q' : H b = some (.own x) := by
        rcases he with z | z
        · exact absurd (hbe.trans z) hb
        · rw [hbe]; exact z
      rw [q] at q'; cases q'
      obtain ⟨v, hv⟩ := heo
      exact ⟨v, by rw [hbe]; exact hv⟩
    · refine (ok b u q).stay (fun c v hc r => k c v ?_ r) (fun c r => by rw [upd_ne (nown c b r)]; exact r) fun c xs r => by rw [upd_ne (ntup c xs r)]; exact r
      rcases hc with rfl | hc
      · exact hbe
      · rintro rfl
        rcases he with z | z
        · exact nown c b hc z
        · rw [hc] at z; cases z; exact hb rfl
end

/-! ### kept unless tracked; of the frames at fs (the callers') the slots may change (an exception that passes writes there); of the records at ex (iterators) nothing is said -/
structure Un (fs ex : List Addr) (H H' : Hp) (h h' : Heap) : Prop where
  keep : ∀ b o, h.get? b = some o → H b = none → b ∉ fs → b ∉ ex → h'.get? b = some o
  slot : ∀ b o, h.get? b = some o → H b = none → b ∈ fs → b ∉ ex → ∃ sl, h'.get? b = some { o with slots := sl }
  free : ∀ b o, h.get? b = some o → H b = none → b ∉ ex → H' b = none
  there : ∀ b o, h.get? b = some o → b ∉ ex → ∃ o', h'.get? b = some o'
  tups : ∀ b xs, H b = some (.tup xs) → H' b = some (.tup xs)
  frzs : ∀ b o u, H b = some (.frz o u) → H' b = some (.frz o u)
  tbls : ∀ b ps, H b = some (.tbl ps) → ∃ more, H' b = some (.tbl (ps ++ more))
section
variable {fs fs' ex ex' : List Addr} {H H1 H2 : Hp} {h h1 h2 h' : Heap} {a x e : Addr} {o : HO}
theorem Un.any (u : Un fs ex H H1 h h1) {b : Addr} {ob : Obj} (q : h.get? b = some ob) (n : H b = none) (hx : b ∉ ex) : ∃ sl, h1.get? b = some { ob with slots := sl } := by
  by_cases hb : b ∈ fs
  · exact u.slot b ob q n hb hx
  · exact ⟨ob.slots, u.keep b ob q n hb hx⟩
theorem Un.kept (k : ∀ b u, h.get? b = some u → h'.get? b = some u) : Un fs ex H H h h' :=
  ⟨fun b ob q _ _ _ => k b ob q, fun b ob q _ _ _ => ⟨ob.slots, k b ob q⟩, fun _ _ _ n _ => n, fun b ob q _ => ⟨ob, k b ob q⟩, fun _ _ q => q, fun _ _ _ q => q, fun _ ps q => ⟨#[], by rw [q]; simp⟩⟩
theorem Un.refl : Un fs ex H H h h := Un.kept fun _ _ q => q
theorem Un.laid (k : ∀ b u, h.get? b = some u → h'.get? b = some u) (hp : h.objs.size ≤ a) (hn : H a = none) : Un fs ex H (upd H a o) h h' where
  keep := fun b u q _ _ _ => k b u q
  slot := fun b u q _ _ _ => ⟨u.slots, k b u q⟩
  free := fun b u q n _ => by rw [upd_ne (Nat.ne_of_lt (Nat.lt_of_lt_of_le (Heap.lt_size q) hp))]; exact n
  there := fun b u q _ => ⟨u, k b u q⟩
  tups := fun b xs q => by rw [upd_ne (ne_of_none q hn)]; exact q
  frzs := fun b u xs q => by rw [upd_ne (ne_of_none q hn)]; exact q
  tbls := fun b ps q => ⟨#[], by rw [upd_ne (ne_of_none q hn), q]; simp⟩
theorem Un.write (mu : Mut (H x)) (he : e = x ∨ H e = some (.own x)) (k : ∀ b u, b ≠ e → h.get? b = some u → h'.get? b = some u) (heo : ∃ u, h'.get? e = some u) : Un fs ex H (upd H x o) h h' := by
  have hx : ∀ b, H b = none → b ≠ x := fun b n z => by subst z; rw [n] at mu; exact mu
  have hb : ∀ b, H b = none → b ≠ e := fun b n z => by
    subst z
    rcases he with r | r
    · exact hx b n r
    · rw [n] at r; cases r
  have hm : ∀ b u, H b = some u → ¬ Mut (some u) → b ≠ x := fun b u q nm z => by subst z; rw [q] at mu; exact nm mu
  refine ⟨fun b u q n _ _ => k b u (hb b n) q, fun b u q n _ _ => ⟨u.slots, k b u (hb b n) q⟩, fun b u q n _ => by rw [upd_ne (hx b n)]; exact n, fun b u q _ => ?_,
    fun b xs q => by rw [upd_ne (hm b _ q fun z => z)]; exact q, fun b u xs q => by rw [upd_ne (hm b _ q fun z => z)]; exact q, fun b ps q => ⟨#[], by rw [upd_ne (hm b _ q fun z => z), q]; simp⟩⟩
  by_cases hbe : b = e
  · subst hbe; exact heo
  · exact ⟨u, k b u hbe q⟩
end

/-! ### the heap without what is tracked -/
def trk (h : Heap) (H : Hp) : List Addr := (List.range h.objs.size).filter fun a => (H a).isSome
def hidT (h : Heap) (H : Hp) : Heap := PySem.W.hideAll h (trk h H)
theorem hidT_size (h : Heap) (H : Hp) : (hidT h H).objs.size = h.objs.size := PySem.W.hideAll_size _ _
theorem hidT_get {h : Heap} {H : Hp} {b : Addr} {o : Obj} (e : h.get? b = some o) (n : H b = none) : (hidT h H).get? b = some o :=
  PySem.W.hideAll_get _ e fun hm => by
    have q : (H b).isSome = true := (List.mem_filter.mp hm).2
    rw [n] at q; simp at q
theorem of_hidT {h : Heap} {H : Hp} {b : Addr} {o : Obj} (e : (hidT h H).get? b = some o) : h.get? b = some o ∧ H b = none := by
  have e' : h.get? b = some o := PySem.W.of_hideAll (trk h H) e
  refine ⟨e', ?_⟩
  cases q : H b with
  | none => rfl
  | some x =>
    have hm : b ∈ trk h H := List.mem_filter.mpr ⟨List.mem_range.mpr (Heap.lt_size e'), by simp [q]⟩
    have z : (hidT h H).get? b = none := PySem.W.hideAll_none (trk h H) hm
    rw [z] at e; cases e

/-! ### OpenK's ledger, filled with every new object but one -/
def allNews (g h : Heap) (L : Addr) : List (Addr × Obj) := (List.range h.objs.size).filterMap fun a => if a = L ∨ (g.get? a).isSome = true then none else (h.get? a).map fun o => (a, o)
def rest (g h : Heap) (L d : Addr) : List (Addr × Obj) := (allNews g h L).filter fun p => decide (p.1 ≠ d)
end L2

namespace L2
open PySem PySem.Spec PyProof.Rows

/-- the module's facts, over the base: the heap at the law's entry without what is tracked there -/
structure Mod (K : PySem.W.Frag) (mg : Str → Option Value) (base : Heap) : Prop where
  kin : K.In base
  glob : base.Ns mainGlobals mg
  blt : ∃ mb, base.Ns builtinsNs mb ∧ ∀ x : Str, x ≠ "__name__" → mb x = bootBuiltins x
  nolimit : base.NoLimit

/-- the context: a def's body (or a comprehension's block) running. base: fixed through the whole law; s₀, H₀: the entry; outer: the frames whose slots others may change (a def's callers); stack: all frames that run;
   ex: iterators that were made ahead of the entry and are walked here (a comprehension's); fn: the names whose cells were made at the entry (a def: all; a comprehension's block: its own); calm: not within an except suite; pn: pins that every state bears; xe: what is wanted of an exception that leaves the code -/
structure Cx where
  prog : Program
  w : World
  K : PySem.W.Frag
  mg : Str → Option Value
  base : Heap
  A : Around
  N : List Str
  s₀ : Shared
  H₀ : Hp
  env : Env
  outer : List Env
  stack : List Env
  ex : List Addr
  fn : Str → Bool
  calm : Bool
  pn : List (Addr × Obj)
  xe : Value → Shared → Prop
/-- the callers' frames -/
def frs (l : List Env) : List Addr := l.filterMap (·.frame)
abbrev Cx.fs (X : Cx) : List Addr := frs X.outer

def Vis (sc : Scope) (x : Str) : Prop := sc.names.lookup x = some .local ∨ sc.names.lookup x = some .cell ∨ sc.names.lookup x = some .free
def Loc (sc : Scope) (x : Str) : Prop := sc.names.lookup x = some .local ∨ sc.names.lookup x = some .cell
def Look (env : Env) (h : Heap) (m : Str → Option Value) (x : Str) (u : Value) : Prop :=
  (env.kindOf x = some .local ∧ m x = some u) ∨ ((env.kindOf x = some .cell ∨ env.kindOf x = some .free) ∧ ∃ c, env.cells.lookup x = some c ∧ h.IsCell c (some u))

structure Cx.Ok (X : Cx) : Prop where
  mod : Mod X.K X.mg X.base
  kind : X.env.scope.kind = .function
  glob : X.env.globals = mainGlobals
  blt : X.env.builtins = builtinsNs
  above : X.s₀.heap.objs.size ≤ X.env.locals
  inj : ∀ x y c, X.env.cells.lookup x = some c → X.env.cells.lookup y = some c → x = y
  has : ∀ x, (X.env.kindOf x = some .cell ∨ X.env.kindOf x = some .free) → ∃ c, X.env.cells.lookup x = some c
  cab : ∀ x c, X.fn x = true → X.env.cells.lookup x = some c → X.s₀.heap.objs.size ≤ c
  hd : X.calm = true → X.A.handled = none
  frames : X.A.frames = some X.stack
  stk : X.stack = X.outer ∨ (X.stack = X.env :: X.outer ∧ X.env.frame = some X.env.locals)
  exf : ∀ b ∈ X.ex, b ≠ X.env.locals ∧ ∀ x c, X.env.cells.lookup x = some c → c ≠ b
  bs : ∀ b o, X.base.get? b = some o → X.s₀.heap.get? b = some o ∧ X.H₀ b = none
  bsz : X.base.objs.size ≤ X.s₀.heap.objs.size
  noex : ∀ b o, X.base.get? b = some o → b ∉ X.ex
  exfs : ∀ b ∈ X.ex, b ∉ X.fs
  funs : X.s₀.heap.FunFrames X.base X.outer
  frf : ∀ b ∈ X.fs, X.H₀ b = none

structure Inv (X : Cx) (pins : List (Addr × Obj)) (σ : List (Option V)) (H : Hp) (s : Shared) : Prop where
  ok : X.Ok
  os : s.os = X.s₀.os
  bare : AllBare s.gens
  base : Un X.fs X.ex X.H₀ H X.s₀.heap s.heap
  loc : ∃ m, s.heap.Ns X.env.locals m ∧ ∀ (i : Nat) (x : Str) (v : V), X.N[i]? = some x → σ[i]? = some (some v) → Vis X.env.scope x → ∃ u, RelV v u ∧ Look X.env s.heap m x u
  cell : ∀ x c, X.env.cells.lookup x = some c → ∃ v, s.heap.IsCell c v
  free : H X.env.locals = none
  freeC : ∀ x c, X.env.cells.lookup x = some c → H c = none
  pin : ∀ p ∈ X.pn ++ pins, s.heap.get? p.1 = some p.2 ∧ H p.1 = none ∧ p.1 ≠ X.env.locals ∧ p.1 ∉ X.fs ∧ ∀ v, p.2.data ≠ .cell v
  hok : HOk X.prog X.w H s.heap
  len : σ.length = X.N.length

section
variable {X : Cx} {pins : List (Addr × Obj)} {σ : List (Option V)} {H H' : Hp} {s : Shared} {h' : Heap}

theorem Cx.Ok.nofr (ok : X.Ok) {b : Addr} {o : Obj} (e : X.base.get? b = some o) : b ∉ X.fs := fun hb => by
  have := (ok.funs.mem hb).1
  rw [e] at this; cases this
theorem Inv.bs (I : Inv X pins σ H s) : ∀ b o, X.base.get? b = some o → s.heap.get? b = some o ∧ H b = none := fun b o e =>
  ⟨I.base.keep b o (I.ok.bs b o e).1 (I.ok.bs b o e).2 (I.ok.nofr e) (I.ok.noex b o e), I.base.free b o (I.ok.bs b o e).1 (I.ok.bs b o e).2 (I.ok.noex b o e)⟩
theorem Inv.bk (I : Inv X pins σ H s) : ∀ b o, X.base.get? b = some o → s.heap.get? b = some o := fun b o e => (I.bs b o e).1
theorem Inv.mod (I : Inv X pins σ H s) : Mod X.K X.mg X.base := I.ok.mod
theorem Inv.kIn (I : Inv X pins σ H s) : X.K.In s.heap := I.ok.mod.kin.keeps I.bk
theorem Inv.lt (I : Inv X pins σ H s) : X.env.locals < s.heap.objs.size := let ⟨_, hn, _⟩ := I.loc; hn.lt
theorem Inv.sz (I : Inv X pins σ H s) : X.s₀.heap.objs.size ≤ s.heap.objs.size := Nat.le_trans I.ok.above (Nat.le_of_lt I.lt)
theorem Inv.nofs (I : Inv X pins σ H s) {a : Addr} (h : s.heap.objs.size ≤ a) : a ∉ X.fs := fun hb => by
  obtain ⟨_, o, ho, _⟩ := I.ok.funs.mem hb
  exact absurd (Nat.lt_of_lt_of_le (Heap.lt_size ho) (Nat.le_trans I.sz h)) (Nat.lt_irrefl _)
theorem Inv.cne (I : Inv X pins σ H s) : ∀ x c, X.env.cells.lookup x = some c → c ≠ X.env.locals := fun x c e z => by
  obtain ⟨v, o, ho, hd⟩ := I.cell x c e
  obtain ⟨m, ⟨o', es, ep, ho', hd', _⟩, _⟩ := I.loc
  rw [z, ho'] at ho; cases ho; rw [hd'] at hd; cases hd
theorem Inv.funs (I : Inv X pins σ H s) : s.heap.FunFrames X.base X.outer := by
  have all : ∀ (l : List Env), (∀ b ∈ frs l, b ∈ X.fs) → X.s₀.heap.FunFrames X.base l → s.heap.FunFrames X.base l := by
    intro l
    induction l with
    | nil => intro _ _; trivial
    | cons env r ih =>
      intro hs hl
      obtain ⟨hk, ⟨L, o, hf, hn, ho, hd⟩, hr⟩ := hl
      have hL : L ∈ X.fs := hs L (by unfold frs; rw [List.filterMap_cons, hf]; exact List.mem_cons_self)
      obtain ⟨sl, e⟩ := I.base.slot L o ho (I.ok.frf L hL) hL fun z => I.ok.exfs L z hL
      exact ⟨hk, ⟨L, _, hf, hn, e, hd⟩, ih (fun b hb => hs b (by unfold frs; rw [List.filterMap_cons, hf]; exact List.mem_cons_of_mem _ hb)) hr⟩
  exact all X.outer (fun _ hb => hb) I.ok.funs

/-- the frames that run, for a call -/
theorem Inv.stack (I : Inv X pins σ H s) : s.heap.FunFrames X.base X.stack := by
  rcases I.ok.stk with e | ⟨e, hf⟩
  · rw [e]; exact I.funs
  · rw [e]
    obtain ⟨m, hn, _⟩ := I.loc
    refine .cons (by rw [I.ok.kind]; decide) hf hn ?_ I.funs
    exact Heap.get?_none_of_le (Nat.le_trans I.ok.bsz I.ok.above)
theorem Inv.stkSub (I : Inv X pins σ H s) : ∀ b ∈ frs X.stack, b ∈ X.env.locals :: X.fs := fun b hb => by
  rcases I.ok.stk with e | ⟨e, hf⟩
  · rw [e] at hb; exact List.mem_cons_of_mem _ hb
  · rw [e] at hb
    unfold frs at hb
    rw [List.filterMap_cons, hf] at hb
    exact hb
theorem Inv.stkFree (I : Inv X pins σ H s) : ∀ b ∈ frs X.stack, H b = none := fun b hb => by
  rcases List.mem_cons.mp (I.stkSub b hb) with e | hb
  · rw [e]; exact I.free
  · obtain ⟨_, o, ho, _⟩ := I.ok.funs.mem hb
    exact I.base.free b o ho (I.ok.frf b hb) fun z => I.ok.exfs b z hb

/-- THE STEP: the untracked objects but the frame and the records at ch are kept (the callers' frames up to slots), the frame's map is kept, the new abstract heap is held -/
theorem Inv.step {g' : Array GenState} {t' : Nat} {d' : Drawn} {ch : List Addr} (I : Inv X pins σ H s)
    (hch : ∀ b ∈ ch, (b ∈ X.ex ∨ X.s₀.heap.objs.size ≤ b) ∧ b ≠ X.env.locals ∧ (∀ x c, X.env.cells.lookup x = some c → c ≠ b) ∧ ∀ p ∈ X.pn ++ pins, p.1 ≠ b)
    (keep : ∀ b o, b ≠ X.env.locals → b ∉ X.fs → b ∉ ch → s.heap.get? b = some o → H b = none → h'.get? b = some o)
    (slot : ∀ b o, b ≠ X.env.locals → b ∈ X.fs → b ∉ ch → s.heap.get? b = some o → H b = none → ∃ sl, h'.get? b = some { o with slots := sl }) (free : ∀ b o, b ∉ ch → s.heap.get? b = some o → H b = none → H' b = none)
    (there : ∀ b o, b ∉ ch → s.heap.get? b = some o → ∃ o', h'.get? b = some o')
    (tups : ∀ b xs, H b = some (.tup xs) → H' b = some (.tup xs)) (frzs : ∀ b o u, H b = some (.frz o u) → H' b = some (.frz o u)) (tbls : ∀ b ps, H b = some (.tbl ps) → ∃ more, H' b = some (.tbl (ps ++ more)))
    (ns : ∀ m, s.heap.Ns X.env.locals m → h'.Ns X.env.locals m) (hok : HOk X.prog X.w H' h') (hg : AllBare g') :
    Inv X pins σ H' { s with heap := h', gens := g', drawn := d', toks := t' } := by
  have neL : ∀ b o, X.s₀.heap.get? b = some o → b ≠ X.env.locals := fun b o e => Nat.ne_of_lt (Nat.lt_of_lt_of_le (Heap.lt_size e) I.ok.above)
  have neC : ∀ b o, X.s₀.heap.get? b = some o → b ∉ X.ex → b ∉ ch := fun b o e hx hb => by
    rcases (hch b hb).1 with z | z
    · exact hx z
    · exact absurd (Nat.lt_of_lt_of_le (Heap.lt_size e) z) (Nat.lt_irrefl _)
  have cellK : ∀ x c, X.env.cells.lookup x = some c → ∀ v, s.heap.IsCell c v → h'.IsCell c v := fun x c e v ⟨o, ho, hd⟩ => by
    have nch : c ∉ ch := fun z => (hch c z).2.2.1 x c e rfl
    by_cases hc : c ∈ X.fs
    · obtain ⟨sl, q⟩ := slot c o (I.cne x c e) hc nch ho (I.freeC x c e)
      exact ⟨_, q, hd⟩
    · exact ⟨o, keep c o (I.cne x c e) hc nch ho (I.freeC x c e), hd⟩
  refine ⟨I.ok, I.os, hg, ⟨fun b o e n hb hx => ?_, fun b o e n hb hx => ?_, fun b o e n hx => ?_, fun b o e hx => ?_, fun b xs e => tups b xs (I.base.tups b xs e), fun b o xs e => frzs b o xs (I.base.frzs b o xs e), fun b ps e => ?_⟩, ?_, fun x c e => ?_, ?_, fun x c e => ?_, fun p hp => ?_, hok, I.len⟩
  · exact keep b o (neL b o e) hb (neC b o e hx) (I.base.keep b o e n hb hx) (I.base.free b o e n hx)
  · obtain ⟨sl, e1⟩ := I.base.slot b o e n hb hx
    obtain ⟨sl', e2⟩ := slot b _ (neL b o e) hb (neC b o e hx) e1 (I.base.free b o e n hx)
    exact ⟨sl', e2⟩
  · obtain ⟨o', e1⟩ := I.base.there b o e hx
    exact free b o' (neC b o e hx) e1 (I.base.free b o e n hx)
  · obtain ⟨o', e1⟩ := I.base.there b o e hx
    exact there b o' (neC b o e hx) e1
  · obtain ⟨m1, e1⟩ := I.base.tbls b ps e
    obtain ⟨m2, e2⟩ := tbls b _ e1
    exact ⟨m1 ++ m2, by rw [e2, Array.append_assoc]⟩
  · obtain ⟨m, hn, hl⟩ := I.loc
    refine ⟨m, ns m hn, fun i x v e1 e2 e3 => ?_⟩
    obtain ⟨u, r, l⟩ := hl i x v e1 e2 e3
    refine ⟨u, r, ?_⟩
    rcases l with l | ⟨k, c, e, z⟩
    · exact .inl l
    · exact .inr ⟨k, c, e, cellK x c e _ z⟩
  · obtain ⟨v, z⟩ := I.cell x c e
    exact ⟨v, cellK x c e v z⟩
  · obtain ⟨m, ⟨o, _, _, ho, _⟩, _⟩ := I.loc
    exact free _ o (fun z => (hch _ z).2.1 rfl) ho I.free
  · obtain ⟨v, o, ho, hd⟩ := I.cell x c e
    exact free c o (fun z => (hch c z).2.2.1 x c e rfl) ho (I.freeC x c e)
  · obtain ⟨e, n, ne, nf, d⟩ := I.pin p hp
    have nch : p.1 ∉ ch := fun z => (hch p.1 z).2.2.2 p hp rfl
    exact ⟨keep p.1 p.2 ne nf nch e n, free p.1 p.2 nch e n, ne, nf, d⟩
/-- .. where the frame's own object is kept too -/
theorem Inv.un {t' : Nat} (I : Inv X pins σ H s) (u : Un X.fs [] H H' s.heap h') (hok : HOk X.prog X.w H' h') : Inv X pins σ H' { s with heap := h', toks := t' } := by
  obtain ⟨m, ⟨o, es, ep, ho, r⟩, _⟩ := id I.loc
  obtain ⟨sl, hL⟩ := u.any ho I.free (by simp)
  exact I.step (g' := s.gens) (d' := s.drawn) (ch := []) (fun _ z => nomatch z) (fun b o _ hb _ e n => u.keep b o e n hb (by simp)) (fun b o _ hb _ e n => u.slot b o e n hb (by simp)) (fun b o _ e n => u.free b o e n (by simp)) (fun b o _ e => u.there b o e (by simp)) u.tups u.frzs u.tbls (fun m' hm => by
    obtain ⟨o', es', ep', ho', r'⟩ := hm
    rw [ho] at ho'; cases ho'
    exact ⟨_, es', ep', hL, r'⟩) hok I.bare
/-- behind a call (or a comprehension's block): the slots of this frame may have changed too, the records at ch may have turned -/
theorem Inv.call {g' : Array GenState} {t' : Nat} {d' : Drawn} {ch : List Addr} (I : Inv X pins σ H s) (u : Un (frs X.stack) ch H H' s.heap h') (hok : HOk X.prog X.w H' h') (hg : AllBare g')
    (hch : ∀ b ∈ ch, (b ∈ X.ex ∨ X.s₀.heap.objs.size ≤ b) ∧ b ≠ X.env.locals ∧ (∀ x c, X.env.cells.lookup x = some c → c ≠ b) ∧ ∀ p ∈ X.pn ++ pins, p.1 ≠ b) :
    Inv X pins σ H' { s with heap := h', gens := g', drawn := d', toks := t' } := by
  obtain ⟨m, ⟨o, es, ep, ho, r⟩, _⟩ := id I.loc
  obtain ⟨sl, hL⟩ := u.any ho I.free fun z => (hch _ z).2.1 rfl
  exact I.step (ch := ch) hch (fun b o hL hb hc e n => u.keep b o e n (fun z => (List.mem_cons.mp (I.stkSub b z)).elim hL hb) hc) (fun b o _ _ hc e n => u.any e n hc) (fun b o hc e n => u.free b o e n hc) (fun b o hc e => u.there b o e hc) u.tups u.frzs u.tbls (fun m' hm => by
    obtain ⟨o', es', ep', ho', r'⟩ := hm
    rw [ho] at ho'; cases ho'
    exact ⟨_, es', ep', hL, r'⟩) hok hg
/-- an untracked record of ours (an iterator) has turned -/
theorem Inv.turned {t' : Nat} {it : Addr} (I : Inv X pins σ H s) (k : ∀ b o, b ≠ it → s.heap.get? b = some o → h'.get? b = some o) (hn : H it = none) (hL : it ≠ X.env.locals)
    (h1 : it ∈ X.ex ∨ X.s₀.heap.objs.size ≤ it) (h2 : ∀ x c, X.env.cells.lookup x = some c → c ≠ it) (h3 : ∀ p ∈ X.pn ++ pins, p.1 ≠ it) : Inv X pins σ H { s with heap := h', toks := t' } := by
  have nit : ∀ b u, H b = some u → b ≠ it := fun b u e z => by rw [z, hn] at e; cases e
  refine I.step (g' := s.gens) (d' := s.drawn) (ch := [it]) (fun b hb => ?_) (fun b o _ _ hc e _ => k b o (fun z => hc (by simp [z])) e) (fun b o _ _ hc e _ => ⟨o.slots, k b o (fun z => hc (by simp [z])) e⟩) (fun _ _ _ _ n => n)
    (fun b o hc e => ⟨o, k b o (fun z => hc (by simp [z])) e⟩) (fun _ _ e => e) (fun _ _ _ e => e) (fun b ps e => ⟨#[], by rw [e]; simp⟩) (fun m hm => ?_) (fun b u e => ?_) I.bare
  · have e : b = it := by simpa using hb
    subst e
    exact ⟨h1, hL, h2, h3⟩
  · obtain ⟨o, es, ep, ho, r⟩ := hm
    exact ⟨o, es, ep, k _ o (Ne.symm hL) ho, r⟩
  · refine (I.hok b u e).stay (fun c v hc q => k c v ?_ q) (fun _ q => q) fun _ _ q => q
    rcases hc with z | z
    · rw [z]; exact nit b u e
    · exact nit c _ z
theorem Inv.tok (I : Inv X pins σ H s) (t : Nat) : Inv X pins σ H { s with toks := t } := I.un (h' := s.heap) (t' := t) Un.refl I.hok
/-- all objects kept -/
theorem Inv.kept {t' : Nat} (I : Inv X pins σ H s) (k : ∀ b u, s.heap.get? b = some u → h'.get? b = some u) : Inv X pins σ H { s with heap := h', toks := t' } := I.un (Un.kept k) (I.hok.kept k)
/-- a new object laid and tracked -/
theorem Inv.laid {a : Addr} {o : HO} {t' : Nat} (I : Inv X pins σ H s) (k : ∀ b u, s.heap.get? b = some u → h'.get? b = some u) (hp : s.heap.objs.size ≤ a) (new : ObjOk X.prog X.w (upd H a o) h' a o) :
    Inv X pins σ (upd H a o) { s with heap := h', toks := t' } := I.un (Un.laid k hp (I.hok.fresh hp)) (I.hok.laid k hp new)
/-- an object written -/
theorem Inv.write {x e : Addr} {o : HO} {t' : Nat} (I : Inv X pins σ H s) (mu : Mut (H x)) (he : e = x ∨ H e = some (.own x)) (k : ∀ b u, b ≠ e → s.heap.get? b = some u → h'.get? b = some u) (heo : ∃ u, h'.get? e = some u)
    (new : ObjOk X.prog X.w (upd H x o) h' x o) : Inv X pins σ (upd H x o) { s with heap := h', toks := t' } := I.un (Un.write mu he k heo) (I.hok.write mu he k heo new)
/-- forgetting slots, pins -/
theorem Inv.weak {σ' : List (Option V)} (I : Inv X pins σ H s) (hl : σ'.length = σ.length) (w : ∀ (i : Nat) v, σ'[i]? = some (some v) → σ[i]? = some (some v)) : Inv X pins σ' H s :=
  ⟨I.ok, I.os, I.bare, I.base, let ⟨m, hn, hl'⟩ := I.loc; ⟨m, hn, fun i x v e1 e2 e3 => hl' i x v e1 (w i v e2) e3⟩, I.cell, I.free, I.freeC, I.pin, I.hok, hl.trans I.len⟩
theorem Inv.pins_of {pins' : List (Addr × Obj)} (I : Inv X pins σ H s) (h : ∀ p ∈ pins', s.heap.get? p.1 = some p.2 ∧ H p.1 = none ∧ p.1 ≠ X.env.locals ∧ p.1 ∉ X.fs ∧ ∀ v, p.2.data ≠ .cell v) : Inv X pins' σ H s :=
  ⟨I.ok, I.os, I.bare, I.base, I.loc, I.cell, I.free, I.freeC, fun p hp => (List.mem_append.mp hp).elim (fun z => I.pin p (List.mem_append_left _ z)) (h p), I.hok, I.len⟩

theorem nodup_ix {N : List Str} (hN : N.Nodup) {i j : Nat} {x : Str} (a : N[i]? = some x) (b : N[j]? = some x) : i = j := by
  obtain ⟨h1, e1⟩ := List.getElem?_eq_some_iff.mp a
  obtain ⟨h2, e2⟩ := List.getElem?_eq_some_iff.mp b
  exact (List.getElem_inj hN).mp (e1.trans e2.symm)

/-- a name is stored; what changed -/
theorem store_ok2 {M : Model} {A : Around} {E : Value → Shared → Prop} {i : Nat} {x : Str} {v : V} {u : Value} {Q : Unit → Shared → Prop} (I : Inv X pins σ H s) (hN : X.N.Nodup) (hi : X.N[i]? = some x) (hx : Loc X.env.scope x) (r : RelV v u)
    (h : ∀ s', Inv X pins (σ.set i (some v)) H s' → (∃ a, Heap.SameBut a s.heap s'.heap ∧ (a = X.env.locals ∨ X.env.cells.lookup x = some a)) → Q () s') (hf : X.fn x = true ∨ X.env.scope.names.lookup x = some .local := by first | exact .inl rfl | exact .inr rfl | assumption) : wpAny M A (storeName X.env x u) Q E s := by
  obtain ⟨m, hn, hl⟩ := id I.loc
  have hcls : (X.env.scope.kind == .class || (X.env.scope.kind == .module && X.env.locals != X.env.globals)) = false := by rw [I.ok.kind]; rfl
  have hiσ : i < σ.length := by rw [I.len]; exact (List.getElem?_eq_some_iff.mp hi).1
  have cne := I.cne
  have tracked : ∀ {a : Addr} {h' : Heap}, (∃ o, s.heap.get? a = some o ∧ H a = none) → Heap.SameBut a s.heap h' → HOk X.prog X.w H h' := fun {a h'} ha hs b ob e => by
    obtain ⟨_, _, hfree⟩ := ha
    refine (I.hok b ob e).stay (fun c w' hc q => (hs.2 c ?_).trans q) (fun _ q => q) fun _ _ q => q
    rintro rfl
    rcases hc with rfl | hc
    · rw [hfree] at e; cases e
    · rw [hfree] at hc; cases hc
  rcases hx with hk | hk
  · refine wpAny_storeName_local hk hn (fun h' hn' hs => ?_) hcls
    obtain ⟨oL, _, _, hoL, _⟩ := id hn
    refine h _ ⟨I.ok, I.os, I.bare, ⟨fun b o e n hb hx => ?_, fun b o e n hb hx => ?_, I.base.free, fun b o e hx => ?_, I.base.tups, I.base.frzs, I.base.tbls⟩, ⟨_, hn', fun j y v' e1 e2 e3 => ?_⟩, fun y c e => ?_, I.free, I.freeC, fun p hp => ?_, tracked ⟨oL, hoL, I.free⟩ hs, by simpa using I.len⟩ ⟨_, hs, .inl rfl⟩
    · exact (hs.2 b (Nat.ne_of_lt (Nat.lt_of_lt_of_le (Heap.lt_size e) I.ok.above))).trans (I.base.keep b o e n hb hx)
    · obtain ⟨sl, e1⟩ := I.base.slot b o e n hb hx
      exact ⟨sl, (hs.2 b (Nat.ne_of_lt (Nat.lt_of_lt_of_le (Heap.lt_size e) I.ok.above))).trans e1⟩
    · obtain ⟨o', e1⟩ := I.base.there b o e hx
      exact ⟨o', (hs.2 b (Nat.ne_of_lt (Nat.lt_of_lt_of_le (Heap.lt_size e) I.ok.above))).trans e1⟩
    · by_cases hj : j = i
      · subst hj
        rw [hi] at e1; cases e1
        rw [List.getElem?_set_self hiσ] at e2
        cases e2
        exact ⟨u, r, .inl ⟨hk, by simp⟩⟩
      · rw [List.getElem?_set_ne (Ne.symm hj)] at e2
        obtain ⟨u', r', q⟩ := hl j y v' e1 e2 e3
        refine ⟨u', r', ?_⟩
        rcases q with ⟨k, e⟩ | ⟨k, c, e, z⟩
        · refine .inl ⟨k, ?_⟩
          have : y ≠ x := fun e => hj (nodup_ix hN e1 (e ▸ hi))
          simp [this, e]
        · exact .inr ⟨k, c, e, z.sameBut hs (cne y c e)⟩
    · obtain ⟨w', z⟩ := I.cell y c e
      exact ⟨w', z.sameBut hs (cne y c e)⟩
    · obtain ⟨e, n, ne, nf, d⟩ := I.pin p hp
      exact ⟨(hs.2 p.1 ne).trans e, n, ne, nf, d⟩
  · have hfn : X.fn x = true := by
      rcases hf with z | z
      · exact z
      · rw [z] at hk; cases hk
    obtain ⟨c, hc⟩ := I.ok.has x (.inl hk)
    obtain ⟨w', z⟩ := I.cell x c hc
    refine wpAny_storeName_cell I.ok.kind hk hc z (fun h' hc' hs => ?_)
    obtain ⟨oc, hoc, hocd⟩ := id z
    refine h { s with heap := h' } ⟨I.ok, I.os, I.bare, ⟨fun b o e n hb hx => ?_, fun b o e n hb hx => ?_, I.base.free, fun b o e hx => ?_, I.base.tups, I.base.frzs, I.base.tbls⟩, ⟨m, hn.sameBut hs (Ne.symm (cne x c hc)), fun j y v' e1 e2 e3 => ?_⟩, fun y c' e => ?_, I.free, I.freeC, fun p hp => ?_, tracked ⟨oc, hoc, I.freeC x c hc⟩ hs, by simpa using I.len⟩ ⟨c, hs, .inr hc⟩
    · exact (hs.2 b (Nat.ne_of_lt (Nat.lt_of_lt_of_le (Heap.lt_size e) (I.ok.cab x c hfn hc)))).trans (I.base.keep b o e n hb hx)
    · obtain ⟨sl, e1⟩ := I.base.slot b o e n hb hx
      exact ⟨sl, (hs.2 b (Nat.ne_of_lt (Nat.lt_of_lt_of_le (Heap.lt_size e) (I.ok.cab x c hfn hc)))).trans e1⟩
    · obtain ⟨o', e1⟩ := I.base.there b o e hx
      exact ⟨o', (hs.2 b (Nat.ne_of_lt (Nat.lt_of_lt_of_le (Heap.lt_size e) (I.ok.cab x c hfn hc)))).trans e1⟩
    · by_cases hj : j = i
      · subst hj
        rw [hi] at e1; cases e1
        rw [List.getElem?_set_self hiσ] at e2
        cases e2
        exact ⟨u, r, .inr ⟨.inl hk, c, hc, hc'⟩⟩
      · rw [List.getElem?_set_ne (Ne.symm hj)] at e2
        obtain ⟨u', r', q⟩ := hl j y v' e1 e2 e3
        refine ⟨u', r', ?_⟩
        rcases q with q | ⟨k, c', e, z'⟩
        · exact .inl q
        · refine .inr ⟨k, c', e, z'.sameBut hs ?_⟩
          rintro rfl
          exact hj (nodup_ix hN e1 (I.ok.inj _ _ _ e hc ▸ hi))
    · by_cases hcc : c' = c
      · subst hcc; exact ⟨_, hc'⟩
      · obtain ⟨w2, z2⟩ := I.cell y c' e
        exact ⟨w2, z2.sameBut hs hcc⟩
    · obtain ⟨e, n, ne, nf, d⟩ := I.pin p hp
      refine ⟨(hs.2 p.1 ?_).trans e, n, ne, nf, d⟩
      intro q
      rw [q, hoc] at e
      have q' : oc = p.2 := Option.some.inj e
      exact d w' (by rw [← q']; exact hocd)
theorem store_ok {M : Model} {A : Around} {E : Value → Shared → Prop} {i : Nat} {x : Str} {v : V} {u : Value} {Q : Unit → Shared → Prop} (I : Inv X pins σ H s) (hN : X.N.Nodup) (hi : X.N[i]? = some x) (hx : Loc X.env.scope x) (r : RelV v u)
    (h : ∀ s', Inv X pins (σ.set i (some v)) H s' → Q () s') (hf : X.fn x = true ∨ X.env.scope.names.lookup x = some .local := by first | exact .inl rfl | exact .inr rfl | assumption) : wpAny M A (storeName X.env x u) Q E s :=
  store_ok2 I hN hi hx r (fun s' I' _ => h s' I') hf
/-- behind a call or a block, the state as it is -/
theorem Inv.call' {s' : Shared} {ch : List Addr} (I : Inv X pins σ H s) (ho : s'.os = s.os) (u : Un (frs X.stack) ch H H' s.heap s'.heap) (hok : HOk X.prog X.w H' s'.heap) (hg : AllBare s'.gens)
    (hch : ∀ b ∈ ch, (b ∈ X.ex ∨ X.s₀.heap.objs.size ≤ b) ∧ b ≠ X.env.locals ∧ (∀ x c, X.env.cells.lookup x = some c → c ≠ b) ∧ ∀ p ∈ X.pn ++ pins, p.1 ≠ b) : Inv X pins σ H' s' := by
  obtain ⟨h', g', d', t', o'⟩ := s'
  have e : o' = s.os := ho
  subst e
  exact I.call (g' := g') (t' := t') (d' := d') u hok hg hch
end

/-! ### the judgements -/
/-- an exception: its class, its own dict's address (where it has one), the abstract heap behind it -/
abbrev XK := Value → Option Addr → Hp → Prop
abbrev St := List (Option V)
abbrev VK := V → Hp → Prop
/-- an expression's reading; a test's; an argument list's -/
abbrev TE := St → Hp → VK → Prop
abbrev TT := St → Hp → (Bool → Hp → Prop) → Prop
abbrev TA := St → Hp → (List V → Hp → Prop) → Prop
/-- what is wanted behind a statement -/
structure Ends where
  nx : St → Hp → Prop
  rt : VK
  bk : St → Hp → Prop := fun _ _ => False
  ct : St → Hp → Prop := fun _ _ => False
abbrev TS := Ends → St → Hp → Prop

def EP (X : Cx) (pins : List (Addr × Obj)) (σ : St) (Q : VK) (u : Value) (s' : Shared) : Prop := ∃ v H', Inv X pins σ H' s' ∧ RelV v u ∧ Q v H'
def TP (X : Cx) (pins : List (Addr × Obj)) (σ : St) (Q : Bool → Hp → Prop) (b : Bool) (s' : Shared) : Prop := ∃ H', Inv X pins σ H' s' ∧ Q b H'
def AP (X : Cx) (pins : List (Addr × Obj)) (σ : St) (Q : List V → Hp → Prop) (us : List Value) (s' : Shared) : Prop := ∃ vs H', Inv X pins σ H' s' ∧ Vals vs us ∧ Q vs H'
def SP (X : Cx) (pins : List (Addr × Obj)) (D : Ends) (f : Flow) (s' : Shared) : Prop :=
  match f with
  | .next => ∃ σ' H', Inv X pins σ' H' s' ∧ D.nx σ' H'
  | .brk => ∃ σ' H', Inv X pins σ' H' s' ∧ D.bk σ' H'
  | .cont => ∃ σ' H', Inv X pins σ' H' s' ∧ D.ct σ' H'
  | .ret u => ∃ v σ' H', Inv X pins σ' H' s' ∧ RelV v u ∧ D.rt v H'

def PE (X : Cx) (e : Expr) (t : TE) : Prop :=
  ∀ (pins : List (Addr × Obj)) (s : Shared) (σ : St) (H : Hp) (Q : VK), Inv X pins σ H s → t σ H Q → wpAny (model X.prog X.w) X.A (eval e X.env) (EP X pins σ Q) X.xe s
def PT (X : Cx) (e : Expr) (t : TT) : Prop :=
  ∀ (pins : List (Addr × Obj)) (s : Shared) (σ : St) (H : Hp) (Q : Bool → Hp → Prop), Inv X pins σ H s → t σ H Q → wpAny (model X.prog X.w) X.A (isTrue e X.env (eval e X.env)) (TP X pins σ Q) X.xe s
/-- a test whatever its 'whole' is (and, or) -/
def PW (X : Cx) (e : Expr) (t : TT) : Prop :=
  ∀ (whole : Sem Value) (pins : List (Addr × Obj)) (s : Shared) (σ : St) (H : Hp) (Q : Bool → Hp → Prop), Inv X pins σ H s → t σ H Q → wpAny (model X.prog X.w) X.A (isTrue e X.env whole) (TP X pins σ Q) X.xe s
theorem PW.pt {X : Cx} {e : Expr} {t : TT} (h : PW X e t) : PT X e t := h _
/-- an argument list (no star), from the left -/
def PA (X : Cx) (es : List Expr) (t : TA) : Prop :=
  ∀ (pos : Pos) (pins : List (Addr × Obj)) (s : Shared) (σ : St) (H : Hp) (Q : List V → Hp → Prop), Inv X pins σ H s → t σ H Q → wpAny (model X.prog X.w) X.A (spliced (backTo pos (starEach es X.env))) (AP X pins σ Q) X.xe s
def PS (X : Cx) (st : Stmt) (t : TS) : Prop :=
  ∀ (pins : List (Addr × Obj)) (s : Shared) (σ : St) (H : Hp) (D : Ends), Inv X pins σ H s → t D σ H → wpAny (model X.prog X.w) X.A (exec st X.env) (SP X pins D) X.xe s
def PSs (X : Cx) (st : List Stmt) (t : TS) : Prop :=
  ∀ (pins : List (Addr × Obj)) (s : Shared) (σ : St) (H : Hp) (D : Ends), Inv X pins σ H s → t D σ H → wpAny (model X.prog X.w) X.A (execs st X.env) (SP X pins D) X.xe s
/-- weaken the end -/
theorem thn {α : Type} {t : Sem α} {Q Q' : α → Shared → Prop} {M : Model} {A : Around} {E : Value → Shared → Prop} {s : Shared} (h : wpAny M A t Q E s) (hQ : ∀ a s, Q a s → Q' a s) : wpAny M A t Q' E s := wpAny_mono h hQ fun _ _ x => x
end L2

namespace L2
open PySem PySem.Spec PyProof.Rows
section
variable {X : Cx}

/-! ### names and constants -/
def tVar (i : Nat) : TE := fun σ H Q => ∃ v, σ[i]? = some (some v) ∧ Q v H
def tC (v : V) : TE := fun _ H Q => Q v H
theorem pe_var {i : Nat} {x : Str} {pos : Pos} (hN : X.N[i]? = some x) (hv : Vis X.env.scope x) (hd : (x == ("__debug__" : Str)) = false := by decide) (hcd : (x == ("__classdict__" : Str)) = false := by decide) : PE X (.Name x pos) (tVar i) := by
  intro pins s σ H Q I h
  obtain ⟨v, e, h⟩ := h
  obtain ⟨m, hn, hl⟩ := I.loc
  obtain ⟨u, r, l⟩ := hl i x v hN e hv
  have fin : EP X pins σ Q u s := ⟨v, H, I, r, h⟩
  rcases l with ⟨hk, hm⟩ | ⟨hk, c, hc, hcell⟩
  · exact wpAny_Name (wpAny_loadName_local I.ok.kind hk hn hm fin) hd
  · rcases hk with hk | hk
    · exact wpAny_Name (wpAny_loadName_cell I.ok.kind hk hc hcell fin) hd
    · exact wpAny_Name (wpAny_loadName_free I.ok.kind hk hc hcell fin hcd) hd
theorem pe_int {i j pos} : PE X (.Constant (.int i) j pos) (tC (.int i)) := fun _ _ _ H _ I h => wpAny_Constant_int ⟨.int i, H, I.tok _, ⟨_, rfl⟩, h⟩
theorem pe_bl {b j pos} : PE X (.Constant (.bool b) j pos) (tC (.bl b)) := fun _ _ _ H _ I h => Constant_bool ⟨.bl b, H, I, rfl, h⟩
theorem pe_non {j pos} : PE X (.Constant .none j pos) (tC .non) := fun _ _ _ H _ I h => Constant_none ⟨.non, H, I, rfl, h⟩
theorem pe_str {x j pos} : PE X (.Constant (.str x) j pos) (tC (.str x)) := fun _ _ _ H _ I h => Calls.Constant_str ⟨.str x, H, I.tok _, ⟨_, rfl⟩, h⟩

/-- a global name of the def -/
def Gl (X : Cx) (x : Str) : Prop := X.env.kindOf x = some .globalImplicit
theorem ld_glob {E : Value → Shared → Prop} {pins : List (Addr × Obj)} {s : Shared} {σ : St} {H : Hp} {x : Str} {u : Value} {pos : Pos} {Q : Value → Shared → Prop} (I : Inv X pins σ H s) (hg : Gl X x) (hm : X.mg x = some u) (h : Q u s)
    (hd : (x == ("__debug__" : Str)) = false := by decide) : wpAny (model X.prog X.w) X.A (eval (.Name x pos) X.env) Q E s :=
  Calls.Name_function_global I.ok.kind hg (Calls.loadGlobal_global (by rw [I.ok.glob]; exact I.mod.glob.keeps I.bk) hm h) hd
theorem ld_blt {E : Value → Shared → Prop} {pins : List (Addr × Obj)} {s : Shared} {σ : St} {H : Hp} {x : Str} {u : Value} {pos : Pos} {Q : Value → Shared → Prop} (I : Inv X pins σ H s) (hg : Gl X x) (hm : X.mg x = none) (hv : bootBuiltins x = some u) (h : Q u s)
    (hn : x ≠ "__name__" := by decide) (hd : (x == ("__debug__" : Str)) = false := by decide) : wpAny (model X.prog X.w) X.A (eval (.Name x pos) X.env) Q E s := by
  obtain ⟨mb, h1, h2⟩ := I.mod.blt
  exact Calls.Name_function_global I.ok.kind hg (Calls.loadGlobal_builtin (by rw [I.ok.glob]; exact I.mod.glob.keeps I.bk) hm (by rw [I.ok.blt]; exact h1.keeps I.bk) ((h2 x hn).trans hv) h) hd
/-- a module's constant, a class, a function, as a value -/
theorem pe_glob {x : Str} {v : V} {u : Value} {pos : Pos} (hg : Gl X x) (hm : X.mg x = some u) (r : RelV v u) (hd : (x == ("__debug__" : Str)) = false := by decide) : PE X (.Name x pos) (tC v) :=
  fun _ _ _ H _ I h => ld_glob I hg hm ⟨v, H, I, r, h⟩ hd
theorem pe_bltn {x : Str} {v : V} {u : Value} {pos : Pos} (hg : Gl X x) (hm : X.mg x = none) (hv : bootBuiltins x = some u) (r : RelV v u) (hn : x ≠ "__name__" := by decide) (hd : (x == ("__debug__" : Str)) = false := by decide) : PE X (.Name x pos) (tC v) :=
  fun _ _ _ H _ I h => ld_blt I hg hm hv ⟨v, H, I, r, h⟩ hn hd

/-! ### arithmetic -/
variable {a b : Expr} {ta tb : TE} {pos : Pos}
/-! ### comparisons -/
/-- a comparison as a value, as a test -/
def tB (t : TE) : TT := fun σ H Q => t σ H fun x H1 => ∃ c, x = .bl c ∧ Q c H1
/-- an expression whose value is a bool, as a test -/
theorem pt_val {e : Expr} {t : TE} (h : PE X e t) (he : ∀ whole, isTrue e X.env whole = (do let v ← whole; standAt e.pos; holding [v] (truthy v)) := by intro _; rfl) : PT X e (tB t) := by
  intro pins s σ H Q I hw
  refine isTrue_plain (thn (h pins s σ H _ I hw) fun v s1 ⟨x, H1, I1, r1, q1⟩ => ?_) (he _)
  obtain ⟨d, rfl, q⟩ := q1
  cases r1
  exact wpAny_truthy_bool ⟨H1, I1, q⟩

/-! ### and, or, not -/
variable {tA tB' : TT} {rest : List Expr}
def tAnd (t u : TT) : TT := fun σ H Q => t σ H fun c H1 => if c = true then u σ H1 Q else Q false H1
def tOr (t u : TT) : TT := fun σ H Q => t σ H fun c H1 => if c = true then Q true H1 else u σ H1 Q
def tNot (t : TT) : TT := fun σ H Q => t σ H fun c H1 => Q (!c) H1
theorem pw_and1 (ha : PT X a tA) : PW X (.BoolOp .And [a] pos) tA := by
  intro wh pins s σ H Q I h
  refine isTrue_and (thn (ha pins s σ H Q I h) fun c s1 e => ?_)
  cases c with
  | true => exact isTrue_and_nil e
  | false => exact e
theorem pw_or1 (ha : PT X a tA) : PW X (.BoolOp .Or [a] pos) tA := by
  intro wh pins s σ H Q I h
  refine isTrue_or (thn (ha pins s σ H Q I h) fun c s1 e => ?_)
  cases c with
  | false => exact isTrue_or_nil e
  | true => exact e
theorem pw_and (ha : PT X a tA) (hb : PW X (.BoolOp .And (b :: rest) pos) tB') : PW X (.BoolOp .And (a :: b :: rest) pos) (tAnd tA tB') := by
  intro wh pins s σ H Q I h
  refine isTrue_and (thn (ha pins s σ H _ I h) fun c s1 ⟨H1, I1, q1⟩ => ?_)
  cases c with
  | true => exact hb wh pins s1 σ H1 Q I1 q1
  | false => exact ⟨H1, I1, q1⟩
theorem pw_or (ha : PT X a tA) (hb : PW X (.BoolOp .Or (b :: rest) pos) tB') : PW X (.BoolOp .Or (a :: b :: rest) pos) (tOr tA tB') := by
  intro wh pins s σ H Q I h
  refine isTrue_or (thn (ha pins s σ H _ I h) fun c s1 ⟨H1, I1, q1⟩ => ?_)
  cases c with
  | true => exact ⟨H1, I1, q1⟩
  | false => exact hb wh pins s1 σ H1 Q I1 q1
theorem pt_not (ha : PT X a tA) : PT X (.UnaryOp .Not a pos) (tNot tA) := by
  intro pins s σ H Q I h
  exact isTrue_not (ha pins s σ H (fun c H1 => Q (!c) H1) I h)
/-- .. as values (bools) -/
def tAndV (ta tb : TE) : TE := fun σ H Q => ta σ H fun x H1 => ∃ c, x = .bl c ∧ if c = true then tb σ H1 Q else Q (.bl false) H1
theorem pe_one {op} {t : TE} (h : PE X a t) : PE X (.BoolOp op [a] pos) t := fun pins s σ H Q I hw => BoolOp_one (h pins s σ H Q I hw)
theorem pe_and (ha : PE X a ta) (hb : PE X (.BoolOp .And (b :: rest) pos) tb) : PE X (.BoolOp .And (a :: b :: rest) pos) (tAndV ta tb) := by
  intro pins s σ H Q I h
  refine BoolOp_and (thn (ha pins s σ H _ I h) fun v s1 ⟨x, H1, I1, r1, q1⟩ => ?_)
  obtain ⟨c, rfl, q1⟩ := q1
  cases r1
  refine wpAny_truthy_bool ?_
  cases c with
  | true => exact hb pins s1 σ H1 Q I1 q1
  | false => exact ⟨.bl false, H1, I1, rfl, q1⟩
/-- a if t else b -/
def tIf (t : TT) (ta tb : TE) : TE := fun σ H Q => t σ H fun c H1 => if c = true then ta σ H1 Q else tb σ H1 Q
theorem pe_ifExp {c : Expr} (hc : PT X c tA) (ha : PE X a ta) (hb : PE X b tb) : PE X (.IfExp c a b pos) (tIf tA ta tb) := by
  intro pins s σ H Q I h
  refine wpAny_IfExp (thn (hc pins s σ H _ I h) fun d s1 ⟨H1, I1, q1⟩ => ?_)
  cases d with
  | true => exact ha pins s1 σ H1 Q I1 q1
  | false => exact hb pins s1 σ H1 Q I1 q1
end
end L2

namespace L2
open PySem PySem.Spec PyProof.Rows

/-! ### a list, a tuple that is read: tracked, frozen, or an object of the module -/
def SqL (K : PySem.W.Frag) (H : Hp) (a : Addr) (xs : List V) : Prop :=
  Rd H a (.lst xs) ∨
    ∃ (o : Obj) (its : Array Value) (n : Nat), K.lookup a = some o ∧ o.cls = .type "list" ∧ o.dict = none ∧ o.data = .seq its n ∧ its.size ≤ sizeLine ∧ Vals xs its.toList
def SqT (K : PySem.W.Frag) (H : Hp) (a : Addr) (xs : List V) : Prop :=
  Rd H a (.tup xs) ∨
    ∃ (o : Obj) (its : Array Value) (n : Nat), K.lookup a = some o ∧ o.cls = .type "tuple" ∧ o.data = .seq its n ∧ its.size ≤ sizeLine ∧ Vals xs its.toList
def absV : Value → Option V
  | .none => some .non
  | .bool b => some (.bl b)
  | .int i _ => some (.int i)
  | .str x _ => some (.str x)
  | .bytes b _ => some (.byt b)
  | .float b _ => some (.flt b)
  | .ref a => some (.ref a)
  | .type n => some (.ty n)
  | _ => none
theorem RelV.abs {x : V} {u : Value} (r : RelV x u) : absV u = some x := by
  cases x with
  | non => cases r; rfl
  | bl _ => cases r; rfl
  | int _ => obtain ⟨t, rfl⟩ := r; rfl
  | str _ => obtain ⟨t, rfl⟩ := r; rfl
  | byt _ => obtain ⟨t, rfl⟩ := r; rfl
  | flt _ => obtain ⟨t, rfl⟩ := r; rfl
  | ref _ => cases r; rfl
  | ty _ => cases r; rfl
theorem RelV.inj {x y : V} {u : Value} (r : RelV x u) (q : RelV y u) : x = y := Option.some.inj (r.abs.symm.trans q.abs)
theorem Vals.inj : ∀ {xs ys : List V} {us : List Value}, Vals xs us → Vals ys us → xs = ys
  | _, _, _, .nil, .nil => rfl
  | _, _, _, .cons r t, .cons r' t' => by rw [r.inj r', Vals.inj t t']
section
variable {X : Cx} {pins : List (Addr × Obj)} {σ : St} {H : Hp} {s : Shared} {a : Addr} {xs ys : List V}
theorem SqL.of {K : PySem.W.Frag} (h : H a = some (.lst xs)) : SqL K H a xs := .inl (.inl h)
theorem SqT.of {K : PySem.W.Frag} (h : H a = some (.tup xs)) : SqT K H a xs := .inl (.inl h)
theorem Inv.list (I : Inv X pins σ H s) (h : SqL X.K H a xs) : ∃ its : List Value, Vals xs its ∧ PlainL s.heap a its.toArray ∧ xs.length ≤ sizeLine := by
  rcases h with h | ⟨o, its, n, hk, hc, hd, hs, hz, r⟩
  · obtain ⟨z, its, n, r, e⟩ := h.ok I.hok
    exact ⟨its, r, ⟨_, n, e, rfl, rfl, rfl⟩, z⟩
  · refine ⟨its.toList, r, ⟨o, n, I.kIn a o hk, hc, hd, by simpa using hs⟩, ?_⟩
    have e := r.length
    simp only [Array.length_toList] at e
    omega
theorem Inv.tuple (I : Inv X pins σ H s) (h : SqT X.K H a xs) : ∃ its : List Value, Vals xs its ∧ IsTup s.heap a its.toArray ∧ xs.length ≤ sizeLine := by
  rcases h with h | ⟨o, its, n, hk, hc, hs, hz, r⟩
  · obtain ⟨z, its, r, p⟩ := h.ok I.hok
    exact ⟨its, r, p, z⟩
  · refine ⟨its.toList, r, ⟨o, I.kIn a o hk, hc, n, by simpa using hs⟩, ?_⟩
    have e := r.length
    simp only [Array.length_toList] at e
    omega
theorem Inv.list_inj (I : Inv X pins σ H s) (h : SqL X.K H a xs) (h' : SqL X.K H a ys) : xs = ys := by
  obtain ⟨its, r, ⟨o, n, e, _, _, d⟩, _⟩ := I.list h
  obtain ⟨its', r', ⟨o', n', e', _, _, d'⟩, _⟩ := I.list h'
  rw [e] at e'; cases e'
  rw [d] at d'
  injection d' with d1 _
  have : its = its' := by simpa using congrArg Array.toList d1
  subst this
  exact r.inj r'
theorem Inv.tuple_inj (I : Inv X pins σ H s) (h : SqT X.K H a xs) (h' : SqT X.K H a ys) : xs = ys := by
  obtain ⟨its, r, ⟨o, e, _, n, d⟩, _⟩ := I.tuple h
  obtain ⟨its', r', ⟨o', e', _, n', d'⟩, _⟩ := I.tuple h'
  rw [e] at e'; cases e'
  rw [d] at d'
  injection d' with d1 _
  have : its = its' := by simpa using congrArg Array.toList d1
  subst this
  exact r.inj r'
end

/-! ### another wish about exceptions -/
abbrev Cx.wish (X : Cx) (E : Value → Shared → Prop) : Cx := { X with xe := E }
/-- no exception leaves -/
abbrev Cx.nox (X : Cx) : Cx := X.wish fun _ _ => False
theorem Cx.Ok.wish {X : Cx} (ok : X.Ok) (E : Value → Shared → Prop) : (X.wish E).Ok :=
  ⟨ok.mod, ok.kind, ok.glob, ok.blt, ok.above, ok.inj, ok.has, ok.cab, ok.hd, ok.frames, ok.stk, ok.exf, ok.bs, ok.bsz, ok.noex, ok.exfs, ok.funs, ok.frf⟩
theorem Cx.Ok.unwish {X : Cx} {E : Value → Shared → Prop} (ok : (X.wish E).Ok) : X.Ok :=
  ⟨ok.mod, ok.kind, ok.glob, ok.blt, ok.above, ok.inj, ok.has, ok.cab, ok.hd, ok.frames, ok.stk, ok.exf, ok.bs, ok.bsz, ok.noex, ok.exfs, ok.funs, ok.frf⟩
section
variable {X : Cx} {pins : List (Addr × Obj)} {σ : St} {H : Hp} {s : Shared} {E : Value → Shared → Prop}
theorem Inv.wish (I : Inv X pins σ H s) (E : Value → Shared → Prop) : Inv (X.wish E) pins σ H s := ⟨I.ok.wish E, I.os, I.bare, I.base, I.loc, I.cell, I.free, I.freeC, I.pin, I.hok, I.len⟩
theorem Inv.unwish (I : Inv (X.wish E) pins σ H s) : Inv X pins σ H s := ⟨I.ok.unwish, I.os, I.bare, I.base, I.loc, I.cell, I.free, I.freeC, I.pin, I.hok, I.len⟩
theorem SP.unwish {D : Ends} {f : Flow} {s' : Shared} (h : SP (X.wish E) pins D f s') : SP X pins D f s' := by
  cases f with
  | next => obtain ⟨σ', H', I, q⟩ := h; exact ⟨σ', H', I.unwish, q⟩
  | brk => obtain ⟨σ', H', I, q⟩ := h; exact ⟨σ', H', I.unwish, q⟩
  | cont => obtain ⟨σ', H', I, q⟩ := h; exact ⟨σ', H', I.unwish, q⟩
  | ret u => obtain ⟨v, σ', H', I, r, q⟩ := h; exact ⟨v, σ', H', I.unwish, r, q⟩
theorem PSs.nox {st : List Stmt} {t : TS} (h : PSs X.nox st t) : PSs X st t := fun pins s σ H D I hw =>
  wpAny_mono (h pins s σ H D (I.wish _) hw) (fun _ _ q => q.unwish) fun _ _ z => False.elim z
end

/-! ### blocks and small statements -/
section
variable {X : Cx} {st : Stmt} {rest : List Stmt} {t u : TS} {e : Expr} {te : TE} {pos : Pos}
def tNext : TS := fun D σ H => D.nx σ H
def tSeq (t u : TS) : TS := fun D σ H => t { D with nx := u D } σ H
theorem pss_nil : PSs X [] tNext := fun _ _ σ H _ I h => wpAny_execs_nil ⟨σ, H, I, h⟩
theorem pss_cons (h1 : PS X st t) (h2 : PSs X rest u) : PSs X (st :: rest) (tSeq t u) := by
  intro pins s σ H D I h
  refine wpAny_execs_cons (thn (h1 pins s σ H { D with nx := u D } I h) fun f s1 q => ?_)
  cases f with
  | next =>
    obtain ⟨σ', H', I', q⟩ := q
    exact h2 pins s1 σ' H' D I' q
  | ret v => exact q
  | brk => exact q
  | cont => exact q
theorem pss_one (h1 : PS X st t) : PSs X [st] t := by
  intro pins s σ H D I h
  refine wpAny_execs_cons (thn (h1 pins s σ H D I h) fun f s1 q => ?_)
  cases f with
  | next => exact wpAny_execs_nil q
  | ret v => exact q
  | brk => exact q
  | cont => exact q
/-- in a def's body nothing is shown -/
theorem Inv.quiet {pins : List (Addr × Obj)} {σ : St} {H : Hp} {s : Shared} (I : Inv X pins σ H s) : interactive X.env = false := by simp [interactive, I.ok.kind]
/-- an expression whose value is dropped -/
def tDrop (te : TE) : TS := fun D σ H => te σ H fun _ H1 => D.nx σ H1
theorem ps_expr (he : PE X e te) (hs : swapsWith e none pos.line X.env = pure false := by rfl) : PS X (.Expr e pos) (tDrop te) := by
  intro pins s σ H D I h
  exact wpAny_Expr_any (thn (he pins s σ H _ I h) fun v s1 ⟨x, H1, I1, r1, q1⟩ => ⟨σ, H1, I1, q1⟩) I.quiet hs
def tRet (te : TE) : TS := fun D σ H => te σ H D.rt
theorem ps_ret (he : PE X e te) : PS X (.Return (some e) pos) (tRet te) := by
  intro pins s σ H D I h
  exact wpAny_Return_some (thn (he pins s σ H _ I h) fun v s1 ⟨x, H1, I1, r1, q1⟩ => ⟨x, σ, H1, I1, r1, q1⟩)
def tIfS (c : TT) (t u : TS) : TS := fun D σ H => c σ H fun b H1 => if b = true then t D σ H1 else u D σ H1
theorem ps_if {c : Expr} {a b : List Stmt} {tc : TT} (hc : PT X c tc) (ha : PSs X a t) (hb : PSs X b u) : PS X (.If c a b pos) (tIfS tc t u) := by
  intro pins s σ H D I h
  refine wpAny_If (thn (hc pins s σ H _ I h) fun d s1 ⟨H1, I1, q1⟩ => ?_)
  cases d with
  | true => exact ha pins s1 σ H1 D I1 q1
  | false => exact hb pins s1 σ H1 D I1 q1
end

/-! ### targets -/
abbrev TG := V → St → Hp → (St → Hp → Prop) → Prop
abbrev TGs := List V → St → Hp → (St → Hp → Prop) → Prop
def PG (X : Cx) (target : Expr) (t : TG) : Prop :=
  ∀ (pins : List (Addr × Obj)) (s : Shared) (σ : St) (H : Hp) (v : V) (u : Value) (Q : St → Hp → Prop), Inv X pins σ H s → RelV v u → t v σ H Q →
    wpAny (model X.prog X.w) X.A (assign target X.env u) (fun _ s' => ∃ σ' H', Inv X pins σ' H' s' ∧ Q σ' H') X.xe s
/-- several targets, one after another -/
def PGs (X : Cx) (ts : List Expr) (t : TGs) : Prop :=
  ∀ (pins : List (Addr × Obj)) (s : Shared) (σ : St) (H : Hp) (vs : List V) (us : List Value) (Q : St → Hp → Prop), Inv X pins σ H s → Vals vs us → t vs σ H Q →
    wpAny (model X.prog X.w) X.A (assignInOrder ((assignEach ts X.env).map (·.2)) us) (fun _ s' => ∃ σ' H', Inv X pins σ' H' s' ∧ Q σ' H') X.xe s
/-- o[i] = v, by values -/
abbrev TSet := V → V → V → Hp → (Hp → Prop) → Prop
def PSet (X : Cx) (t : TSet) : Prop :=
  ∀ (pins : List (Addr × Obj)) (s : Shared) (σ : St) (H : Hp) (o i v : V) (ov iv u : Value) (Q : Hp → Prop), Inv X pins σ H s → RelV o ov → RelV i iv → RelV v u → t o i v H Q →
    wpAny (model X.prog X.w) X.A (setItem ov iv u) (fun _ s' => ∃ H', Inv X pins σ H' s' ∧ Q H') X.xe s
section
variable {X : Cx} {pos : Pos}
def gName (i : Nat) : TG := fun v σ H Q => Q (σ.set i (some v)) H
theorem pg_name {i : Nat} {x : Str} (hN : X.N.Nodup) (hi : X.N[i]? = some x) (hx : Loc X.env.scope x) (hf : X.fn x = true ∨ X.env.scope.names.lookup x = some .local := by first | exact .inl rfl | exact .inr rfl | assumption) : PG X (.Name x pos) (gName i) := by
  intro pins s σ H v u Q I r h
  exact wpAny_assign_Name (store_ok I hN hi hx r (fun s' I' => ⟨_, H, I', h⟩) hf)
def gNil : TGs := fun vs σ H Q => vs = [] ∧ Q σ H
def gCons (t : TG) (u : TGs) : TGs := fun vs σ H Q => ∃ v r, vs = v :: r ∧ t v σ H fun σ' H' => u r σ' H' Q
theorem pgs_nil : PGs X [] gNil := by
  intro pins s σ H vs us Q I r h
  obtain ⟨e, h⟩ := h
  subst e
  cases r
  exact assignInOrder_nil ⟨σ, H, I, h⟩
theorem pgs_cons {e : Expr} {es : List Expr} {t : TG} {u : TGs} (h1 : PG X e t) (h2 : PGs X es u)
    (hs : (assignEach (e :: es) X.env).map (·.2) = assign e X.env :: (assignEach es X.env).map (·.2) := by rfl) : PGs X (e :: es) (gCons t u) := by
  intro pins s σ H vs us Q I r h
  obtain ⟨v, vr, e1, h⟩ := h
  subst e1
  cases r with
  | cons r rr =>
    rw [hs]
    refine assignInOrder_cons (thn (h1 pins s σ H _ _ _ I r h) fun _ s1 ⟨σ1, H1, I1, q1⟩ => ?_)
    exact h2 pins s1 σ1 H1 _ _ Q I1 rr q1
/-- (a, b, ..) = a tuple of that length -/
def gTup (K : PySem.W.Frag) (n : Nat) (t : TGs) : TG := fun v σ H Q => ∃ a xs, v = .ref a ∧ SqT K H a xs ∧ xs.length = n ∧ t xs σ H Q
theorem pg_tup {es : List Expr} {k : Nat} {t : TGs} {n : Nat} (hc : X.calm = true) (h : PGs X es t)
    (hn : (assignEach es X.env).length = n := by rfl) (hst : (assignEach es X.env).findIdx? (·.1) = none := by rfl) : PG X (.Tuple es k pos) (gTup X.K n t) := by
  intro pins s σ H v u Q I r hw
  obtain ⟨a, xs, e1, hq, hl, hw⟩ := hw
  subst e1
  cases r
  obtain ⟨its, rv, ht, hz⟩ := I.tuple hq
  refine assign_Tuple_tuple (I.ok.hd hc) ht (by simp [hn, ← hl, rv.length]) hst fun h' hx => ?_
  have I1 : Inv X pins σ H { s with heap := h' } := I.kept (t' := s.toks) fun b o e => hx b o (Nat.ne_of_lt (Heap.lt_size e)) e
  exact h pins _ σ H xs _ Q I1 (by simpa using rv) hw
/-- o[i] = .. -/
def gSub (to ti : TE) (t : TSet) : TG := fun v σ H Q => to σ H fun o H1 => ti σ H1 fun i H2 => t o i v H2 fun H3 => Q σ H3
theorem pg_sub {o i : Expr} {to ti : TE} {t : TSet} (ho : PE X o to) (hi : PE X i ti) (hs : PSet X t)
    (ha : ∀ v, assign (.Subscript o i pos) X.env v = (do
      let ov ← holding [v] (eval o X.env)
      let iv ← holding [v, ov] (eval i X.env)
      standAt pos
      holding [v, ov, iv] (setItem ov iv v)
      release [v, ov, iv] []) := by intro _; rfl) : PG X (.Subscript o i pos) (gSub to ti t) := by
  intro pins s σ H v u Q I r h
  rw [ha]
  refine wpAny_bind (wpAny_holding (thn (ho pins s σ H _ I h) fun ov s1 ⟨x, H1, I1, r1, q1⟩ => ?_))
  refine wpAny_bind (wpAny_holding (thn (hi pins s1 σ H1 _ I1 q1) fun iv s2 ⟨y, H2, I2, r2, q2⟩ => ?_))
  refine wpAny_bind (wpAny_standAt (wpAny_bind (wpAny_holding (thn (hs pins s2 σ H2 x y v ov iv u _ I2 r1 r2 r q2) fun _ s3 ⟨H3, I3, q3⟩ => ?_))))
  exact wpAny_release ⟨σ, H3, I3, q3⟩
/-- target = value -/
def tAsg (te : TE) (g : TG) : TS := fun D σ H => te σ H fun x H1 => g x σ H1 D.nx
theorem ps_asg {tg e : Expr} {te : TE} {g : TG} (he : PE X e te) (hg : PG X tg g) (hs : swapsWithSole [tg] e pos.line X.env = pure false := by rfl) (hw : swappedStores [tg] e X.env = pure none := by rfl)
    (h1 : (assignEach [tg] X.env).map (·.2) = [assign tg X.env] := by rfl) : PS X (.Assign [tg] e pos) (tAsg te g) := by
  intro pins s σ H D I h
  refine wpAny_Assign_stores (thn (he pins s σ H _ I h) fun v s1 ⟨x, H1, I1, r1, q1⟩ => ?_) hs hw
  rw [h1]
  exact thn (hg pins s1 σ H1 x v _ I1 r1 q1) fun _ s2 q => q
/-- name = value -/
theorem ps_set {i : Nat} {x : Str} {e : Expr} {te : TE} {pos' : Pos} (hN : X.N.Nodup) (hi : X.N[i]? = some x) (hx : Loc X.env.scope x) (he : PE X e te) (hs : swapsWith e (some (.Name x pos')) pos.line X.env = pure false := by rfl) (hf : X.fn x = true ∨ X.env.scope.names.lookup x = some .local := by first | exact .inl rfl | exact .inr rfl | assumption) :
    PS X (.Assign [.Name x pos'] e pos) (tAsg te (gName i)) := by
  intro pins s σ H D I h
  refine wpAny_Assign_Name (thn (he pins s σ H _ I h) fun v s1 ⟨y, H1, I1, r1, q1⟩ => ?_) hs
  exact store_ok I1 hN hi hx r1 (fun s2 I2 => ⟨_, H1, I2, q1⟩) hf
end

/-! ### while -/
section
variable {X : Cx} {pos : Pos}
end

/-! ### what a loop or a comprehension walks -/
/-- at turn i: it yields x (the heap may grow), or it stops -/
structure It where
  go : Nat → Hp → Prop
  yld : Nat → Hp → V → Hp → Prop
  stop : Nat → Hp → Prop
/-- the iterator's own objects may turn: they are not the frame's, not pinned, younger than the entry (or a comprehension's own) -/
def FpOk (X : Cx) (pins : List (Addr × Obj)) (H : Hp) (b : Addr) : Prop :=
  H b = none ∧ b ≠ X.env.locals ∧ b ∉ X.fs ∧ (b ∈ X.ex ∨ X.s₀.heap.objs.size ≤ b) ∧ (∀ x c, X.env.cells.lookup x = some c → c ≠ b) ∧ ∀ p ∈ X.pn ++ pins, p.1 ≠ b
theorem Inv.fpOk {X : Cx} {pins : List (Addr × Obj)} {σ : St} {H H' : Hp} {s : Shared} {b : Addr} (I : Inv X pins σ H s) (hb : s.heap.objs.size ≤ b) (hn : H' b = none) : FpOk X pins H' b := by
  refine ⟨hn, Nat.ne_of_gt (Nat.lt_of_lt_of_le I.lt hb), I.nofs hb, .inr (Nat.le_trans I.sz hb), fun x c e z => ?_, fun p hp z => ?_⟩
  · obtain ⟨v, q⟩ := I.cell x c e
    exact absurd (Nat.lt_of_lt_of_le q.lt (by rw [z]; exact hb)) (Nat.lt_irrefl _)
  · exact absurd (Nat.lt_of_lt_of_le (Heap.lt_size (I.pin p hp).1) (by rw [z]; exact hb)) (Nat.lt_irrefl _)
structure Turn (P : Program) (w : World) (K : PySem.W.Frag) (tg : Expr) (J : It) (fp : List Addr) (it : Addr) (tn : Nat → Heap → Prop) : Prop where
  mem : it ∈ fp
  obj : ∀ i h, tn i h → ∀ b ∈ fp, ∃ o, h.get? b = some o ∧ ∀ v, o.data ≠ .cell v
  keep : ∀ i h h', tn i h → (∀ b ∈ fp, ∀ o, h.get? b = some o → h'.get? b = some o) → tn i h'
  item : ∀ (X : Cx), X.prog = P → X.w = w → X.K = K → X.calm = true → ∀ (i : Nat) (pins : List (Addr × Obj)) (s : Shared) (σ : St) (H : Hp) (E : Value → Shared → Prop), Inv X pins σ H s → (∀ b ∈ fp, FpOk X pins H b) → tn i s.heap → J.go i H →
    wpAny (model P w) X.A (pyNext (.ref it)) (fun r s1 => ∃ u, r = some u ∧
      wpAny (model P w) X.A (letOwnedTupleGo tg (.ref it) u) (fun _ s2 => ∃ x H', Inv X pins σ H' s2 ∧ RelV x u ∧ J.yld i H x H' ∧ tn (i + 1) s2.heap ∧ ∀ b ∈ fp, H' b = none) E s1) E s
  done : ∀ (X : Cx), X.prog = P → X.w = w → X.K = K → X.calm = true → ∀ (i : Nat) (pins : List (Addr × Obj)) (s : Shared) (σ : St) (H : Hp) (E : Value → Shared → Prop), Inv X pins σ H s → (∀ b ∈ fp, FpOk X pins H b) → tn i s.heap → J.stop i H →
    wpAny (model P w) X.A (pyNext (.ref it)) (fun r s1 => r = none ∧ Inv X pins σ H s1) E s
  self : ∀ (A : Around) (i : Nat) (s : Shared) (Q : Value → Shared → Prop) (E : Value → Shared → Prop), tn i s.heap → Q (.ref it) s → wpAny (model P w) A (pyIter (.ref it)) Q E s
abbrev TI := St → Hp → (It → Hp → Prop) → Prop
/-- an iterator has come -/
def PIE (X : Cx) (pins : List (Addr × Obj)) (σ : St) (tg : Expr) (R : It → Hp → Prop) (itv : Value) (s2 : Shared) : Prop :=
  ∃ (it : Addr) (fp : List Addr) (tn : Nat → Heap → Prop) (J : It) (H' : Hp), itv = .ref it ∧ Inv X pins σ H' s2 ∧ Turn X.prog X.w X.K tg J fp it tn ∧ tn 0 s2.heap ∧ (∀ b ∈ fp, FpOk X pins H' b) ∧ R J H'
def PI (X : Cx) (tg iter : Expr) (wi : TI) : Prop :=
  ∀ (pins : List (Addr × Obj)) (s : Shared) (σ : St) (H : Hp) (R : It → Hp → Prop), Inv X pins σ H s → wi σ H R →
    wpAny (model X.prog X.w) X.A (eval iter X.env) (fun v s1 => wpAny (model X.prog X.w) X.A (pyIter v) (PIE X pins σ tg R) X.xe s1) X.xe s

/-- the step ahead of the store is nothing for an iterator that keeps no tuple -/
theorem go_of {M : Model} {A : Around} {E : Value → Shared → Prop} {s : Shared} {tg : Expr} {it : Addr} {u : Value} {o : Obj} {n : String} {vs : Array Value} {Q : Unit → Shared → Prop} (ho : s.heap.get? it = some o) (hc : o.cls = .type n) (hd : o.data = .fields vs)
    (hn : ["enumerate", "zip", "dict_itemiterator", "dict_reverseitemiterator", "odict_iterator", "itertools.zip_longest", "itertools.pairwise"].contains n = false) (hQ : Q () s) : wpAny M A (letOwnedTupleGo tg (.ref it) u) Q E s := by
  unfold letOwnedTupleGo
  cases tg <;> first
    | exact wpAny_pure hQ
    | (cases u <;> first
        | exact wpAny_pure hQ
        | (refine wpAny_bind (wpAny_load ho ?_)
           rw [hc, hd]
           show wpAny M A (if (["enumerate", "zip", "dict_itemiterator", "dict_reverseitemiterator", "odict_iterator", "itertools.zip_longest", "itertools.pairwise"].contains n && vs[0]? == some (rawInt _)) = true then _ else _) Q E s
           rw [if_neg (by intro h; rw [hn, Bool.false_and] at h; cases h)]
           exact wpAny_pure hQ))

/-- the list at a, as it stands at each turn (a loop may append to it) -/
def Itl (K : PySem.W.Frag) (a : Addr) : It :=
  ⟨fun i H => ∃ xs x, SqL K H a xs ∧ xs[i]? = some x, fun i H x H' => H' = H ∧ ∀ xs, SqL K H a xs → xs[i]? = some x, fun i H => ∃ xs, SqL K H a xs ∧ xs.length ≤ i⟩
/-- lo, lo + 1, .. (n of them) -/
def Itr (lo : Int) (n : Nat) : It := ⟨fun i _ => i < n, fun i H x H' => H' = H ∧ x = .int (lo + i), fun i _ => n ≤ i⟩
theorem turn_list {P : Program} {w : World} {K : PySem.W.Frag} {tg : Expr} (a it : Addr) : Turn P w K tg (Itl K a) [it] it (fun i h => h.IsListIter it a i) where
  mem := by simp
  obj := fun i h st b hb => by
    have e : b = it := by simpa using hb
    subst e
    obtain ⟨o, e, c, d⟩ := st
    exact ⟨o, e, fun v z => by rw [d] at z; cases z⟩
  keep := fun i h h' st k => st.at fun o e => k it (by simp) o e
  item := by
    intro X hP hw hK hc i pins s σ H E I hf st hg
    subst hP hw hK
    obtain ⟨xs, x, hq, hx⟩ := hg
    obtain ⟨its, rv, p, hz⟩ := I.list hq
    obtain ⟨u, hu, ru⟩ := rv.get hx
    obtain ⟨f0, f1, f2, f3, f4, f5⟩ := hf it (by simp)
    refine wpAny_pyNext_list_item st p.isList (x := u) (by simpa using hu) fun h' st' sb => ?_
    have I1 : Inv X pins σ H { s with heap := h' } := I.turned (t' := s.toks) (fun b o hb e => (sb.2 b hb).trans e) f0 f1 f3 f4 f5
    obtain ⟨o, e, c, d⟩ := id st'
    exact ⟨u, rfl, go_of (s := { s with heap := h' }) e c d (by decide) ⟨x, H, I1, ru, ⟨rfl, fun ys hy => by rw [I.list_inj hy hq]; exact hx⟩, st', fun b hb => (hf b hb).1⟩⟩
  done := by
    intro X hP hw hK hc i pins s σ H E I hf st hg
    subst hP hw hK
    obtain ⟨xs, hq, hx⟩ := hg
    obtain ⟨its, rv, p, hz⟩ := I.list hq
    obtain ⟨f0, f1, f2, f3, f4, f5⟩ := hf it (by simp)
    have hl := rv.length
    exact wpAny_pyNext_list_end (I.ok.hd hc) st p.isList (by simp; omega) fun h' eb => ⟨rfl, I.turned (t' := s.toks) (fun b o hb e => eb b o hb e) f0 f1 f3 f4 f5⟩
  self := fun _ _ _ _ _ st h => wpAny_pyIter_listiter st h
theorem turn_range {P : Program} {w : World} {K : PySem.W.Frag} {tg : Expr} (it : Addr) (lo : Int) (n : Nat) : Turn P w K tg (Itr lo n) [it] it (fun i h => IsRangeIter h it (lo + (i : Nat) * 1) ((n : Int) - (i : Nat)) 1) where
  mem := by simp
  obj := fun i h st b hb => by
    have e : b = it := by simpa using hb
    subst e
    exact ⟨_, st, fun v z => by
      have z' : Data.fields _ = Data.cell v := z
      cases z'⟩
  keep := fun i h h' st k => k it (by simp) _ st
  item := by
    intro X hP hw hK hc i pins s σ H E I hf st hg
    subst hP hw hK
    obtain ⟨f0, f1, f2, f3, f4, f5⟩ := hf it (by simp)
    have W := Walks.range (prog := X.prog) (w := X.w) (I.ok.hd hc) it lo 1 n
    refine W.item i s _ _ hg st fun v h' tk hv st' kk => ?_
    obtain ⟨t, rfl⟩ := hv
    have I1 : Inv X pins σ H { s with heap := h', toks := tk } := I.turned (fun b o hb e => kk b o (by simpa using hb) e) f0 f1 f3 f4 f5
    refine ⟨_, rfl, go_of (s := { s with heap := h', toks := tk }) (n := "range_iterator") st' rfl rfl (by decide) ⟨.int (lo + i), H, I1, ⟨t, ?_⟩, ⟨rfl, rfl⟩, st', fun b hb => (hf b hb).1⟩⟩
    rw [Int.mul_one]
  done := by
    intro X hP hw hK hc i pins s σ H E I hf st hg
    subst hP hw hK
    obtain ⟨f0, f1, f2, f3, f4, f5⟩ := hf it (by simp)
    exact wpAny_pyNext_range_end (I.ok.hd hc) st (by have : n ≤ i := hg; omega) fun h' eb => ⟨rfl, I.turned (t' := s.toks) (fun b o hb e => eb b o hb e) f0 f1 f3 f4 f5⟩
  self := fun _ _ _ _ _ st h => wpAny_pyIter_rangeiter st h
end L2

namespace L2
open PySem PySem.Spec PyProof.Rows
section
variable {X : Cx} {tg : Expr}
def iList (K : PySem.W.Frag) (tl : TE) : TI := fun σ H R => tl σ H fun x H1 => ∃ a, x = .ref a ∧ (∃ xs, SqL K H1 a xs) ∧ R (Itl K a) H1
theorem pi_list {l : Expr} {tl : TE} (hl : PE X l tl) : PI X tg l (iList X.K tl) := by
  intro pins s σ H R I h
  refine thn (hl pins s σ H _ I h) fun v s1 ⟨x, H1, I1, r1, q1⟩ => ?_
  obtain ⟨a, e, ⟨xs, hq⟩, q⟩ := q1
  subst e
  cases r1
  obtain ⟨its, rv, p, hz⟩ := I1.list hq
  refine wpAny_pyIter_list p.isList ?_
  refine ⟨s1.heap.objs.size, [s1.heap.objs.size], _, _, H1, rfl, I1.kept (t' := s1.toks) fun b o e => Heap.get?_push_of_some _ e, turn_list a _, ⟨_, Heap.get?_push_size _ rfl, rfl, rfl⟩, fun b hb => ?_, q⟩
  have e : b = s1.heap.objs.size := by simpa using hb
  subst e
  exact I1.fpOk (Nat.le_refl _) (I1.hok.fresh (Nat.le_refl _))
/-- a range object just made, walked -/
theorem range_it {pins : List (Addr × Obj)} {σ : St} {H : Hp} {s : Shared} {R : It → Hp → Prop} {E : Value → Shared → Prop} {lo hi : Int} {t u v : Tok} {tk : Nat} (I : Inv X pins σ H s) (h1 : -(2 ^ 62) ≤ lo) (h2 : lo < 2 ^ 62) (h3 : -(2 ^ 62) ≤ hi) (h4 : hi < 2 ^ 62)
    (q : R (Itr lo (hi - lo).toNat) H) : wpAny (model X.prog X.w) X.A (pyIter (.ref s.heap.objs.size)) (PIE X pins σ tg R) E { s with heap := s.heap.push { cls := .type "range", data := .fields #[.int lo t, .int hi u, .int 1 v] }, toks := tk } := by
  refine wpAny_pyIter_range (IsRange.new ..) (small_one h1 h2 h3 h4) ?_
  have I1 : Inv X pins σ H { s with heap := s.heap.push { cls := .type "range", data := .fields #[.int lo t, .int hi u, .int 1 v] }, toks := tk } := I.kept fun b o e => Heap.get?_push_of_some _ e
  refine ⟨(s.heap.push { cls := .type "range", data := .fields #[.int lo t, .int hi u, .int 1 v] }).objs.size, [(s.heap.push { cls := .type "range", data := .fields #[.int lo t, .int hi u, .int 1 v] }).objs.size], _, _, H, rfl,
    I1.kept (t' := tk) fun b o e => Heap.get?_push_of_some _ e, turn_range _ lo (hi - lo).toNat, ?_, fun b hb => ?_, q⟩
  · have e1 : lo + ((0 : Nat) : Int) * 1 = lo := by simp
    have e2 : (((hi - lo).toNat : Nat) : Int) - ((0 : Nat) : Int) = Builtin.Range.rangeSize lo hi 1 := by rw [rangeSize_one]; split <;> omega
    show IsRangeIter _ _ (lo + ((0 : Nat) : Int) * 1) ((((hi - lo).toNat : Nat) : Int) - ((0 : Nat) : Int)) 1
    rw [e1, e2]
    exact Heap.get?_push_size _ rfl
  · have e : b = (s.heap.push { cls := .type "range", data := .fields #[.int lo t, .int hi u, .int 1 v] }).objs.size := by simpa using hb
    subst e
    exact I1.fpOk (Nat.le_refl _) (I1.hok.fresh (Nat.le_refl _))
def iRng1 (ta : TA) : TI := fun σ H R => ta σ H fun vs H1 => ∃ j : Int, vs = [.int j] ∧ -(2 ^ 62) ≤ j ∧ j < 2 ^ 62 ∧ R (Itr 0 j.toNat) H1
theorem pi_range1 {a : Expr} {ta : TA} {p pos : Pos} (hg : Gl X "range") (hm : X.mg "range" = none) (ha : PA X [a] ta) (hs : starEach [a] X.env = [(false, eval a X.env)] := by rfl) : PI X tg (.Call (.Name "range" p) [a] [] pos) (iRng1 ta) := by
  intro pins s σ H R I h
  refine Call_ (ld_blt I hg hm boot_range (PyProof.Rows.callWith_type1 (thn (ha pos pins s σ H _ I h) fun us s1 ⟨vs, H1, I1, r1, q1⟩ => ?_) hs rfl))
  obtain ⟨j, e, q1, q2, q⟩ := q1
  subst e
  cases r1 with
  | cons r rr =>
    cases rr
    obtain ⟨t, rfl⟩ := r
    exact call_range_1 (range_it I1 (by omega) (by omega) q1 q2 (by simpa using q))
/-! ### for -/
/-- W: the invariant by the turn and a measure; N: what the body is to reach -/
def tFor (wi : TI) (g : TG) (tb : TS) : TS := fun D σ H => wi σ H fun J H1 => ∃ W : Nat → Nat → St → Hp → Prop, (∃ m, W 0 m σ H1) ∧ ∀ i m σ H, W i m σ H →
  (J.stop i H ∧ D.nx σ H) ∨ (J.go i H ∧ ∃ N : St → Hp → Prop, (∀ σ' H', N σ' H' → ∃ m', m' < m ∧ W (i + 1) m' σ' H') ∧ ∀ x H', J.yld i H x H' → g x σ H' fun σ2 H2 => tb { D with nx := N, ct := N, bk := D.nx } σ2 H2)
/-- the records at fp as they stand -/
def pinsAt (fp : List Addr) (h : Heap) : List (Addr × Obj) := fp.filterMap fun b => (h.get? b).map fun o => (b, o)
theorem mem_pinsAt {fp : List Addr} {h : Heap} {b : Addr} {o : Obj} (hb : b ∈ fp) (e : h.get? b = some o) : (b, o) ∈ pinsAt fp h := List.mem_filterMap.mpr ⟨b, hb, by rw [e]; rfl⟩
theorem of_pinsAt {fp : List Addr} {h : Heap} {p : Addr × Obj} (hp : p ∈ pinsAt fp h) : p.1 ∈ fp ∧ h.get? p.1 = some p.2 := by
  obtain ⟨b, hb, e⟩ := List.mem_filterMap.mp hp
  cases q : h.get? b with
  | none => rw [q] at e; cases e
  | some o =>
    rw [q] at e
    have e' : (b, o) = p := Option.some.inj e
    subst e'
    exact ⟨hb, q⟩
theorem Inv.pinned {pins : List (Addr × Obj)} {σ : St} {H : Hp} {s : Shared} {fp : List Addr} (I : Inv X pins σ H s) (hf : ∀ b ∈ fp, FpOk X pins H b) (ho : ∀ b ∈ fp, ∃ o, s.heap.get? b = some o ∧ ∀ v, o.data ≠ .cell v) : Inv X (pins ++ pinsAt fp s.heap) σ H s :=
  I.pins_of fun p hp => (List.mem_append.mp hp).elim (fun z => I.pin p (List.mem_append_right _ z)) fun z => by
    obtain ⟨hb, e⟩ := of_pinsAt z
    obtain ⟨f0, f1, f2, _⟩ := hf p.1 hb
    obtain ⟨o, e', d⟩ := ho p.1 hb
    rw [e] at e'; cases e'
    exact ⟨e, f0, f1, f2, d⟩
theorem Inv.unpinned {pins pl : List (Addr × Obj)} {σ : St} {H : Hp} {s : Shared} (I : Inv X (pins ++ pl) σ H s) : Inv X pins σ H s := I.pins_of fun p hp => I.pin p (List.mem_append_right _ (List.mem_append_left _ hp))
theorem ps_for {iter : Expr} {body : List Stmt} {wi : TI} {g : TG} {tb : TS} {pos : Pos} (hp : PassesOwn (model X.prog X.w) X.A X.env X.xe) (hc : X.calm = true) (hi : PI X tg iter wi) (hg : PG X tg g) (hb : PSs X body tb)
    (hs : ∀ x, foldedSetIterable iter X.env x = pure x := by intro _; rfl) : PS X (.For tg iter body [] pos) (tFor wi g tb) := by
  intro pins s σ H D I h
  refine wpAny_For (thn (hi pins s σ H _ I h) fun v s1 h1 => thn h1 fun itv s2 h2 => ?_) hs
  obtain ⟨it, fp, tn, J, H2, e, I2, T, st2, f2, W, ⟨m0, w0⟩, turn⟩ := h2
  subst e
  -- what stays true of the iterator's objects through the loop
  have stat : ∀ {H' : Hp}, (∀ b ∈ fp, H' b = none) → ∀ b ∈ fp, FpOk X pins H' b := fun hn b hb => ⟨hn b hb, (f2 b hb).2⟩
  refine codeAny_forLoop_any (fun n s' => ∃ i σ' H', Inv X pins σ' H' s' ∧ tn i s'.heap ∧ (∀ b ∈ fp, H' b = none) ∧ W i n σ' H') ?_ m0 ⟨0, σ, H2, I2, st2, fun b hb => (f2 b hb).1, w0⟩
  rintro n s3 ⟨i, σ3, H3, I3, st3, fr3, w3⟩
  rcases turn i n σ3 H3 w3 with ⟨stop, qn⟩ | ⟨go, N, hN, step⟩
  · refine wpAny_passesOwn hp (thn (T.done X rfl rfl rfl hc i pins s3 σ3 H3 X.xe I3 (stat fr3) st3 stop) fun r s4 ⟨hr, I4⟩ => ?_)
    subst hr
    exact wpAny_execs_nil ⟨σ3, H3, I4, qn⟩
  · refine wpAny_passesOwn hp (thn (T.item X rfl rfl rfl hc i pins s3 σ3 H3 X.xe I3 (stat fr3) st3 go) fun r s4 ⟨u, hr, h4⟩ => ?_)
    subst hr
    refine wpAny_passesOwn hp (thn h4 fun _ s5 ⟨x, H5, I5, r5, y5, st5, fr5⟩ => ?_)
    have I5' := I5.pinned (stat fr5) (T.obj _ _ st5)
    refine wpAny_passesOwn hp (thn (hg _ s5 σ3 H5 x u _ I5' r5 (step x H5 y5)) fun _ s6 ⟨σ6, H6, I6, q6⟩ => ?_)
    refine wpAny_passesOwn hp (thn (hb _ s6 σ6 H6 _ I6 q6) fun f s7 q7 => ?_)
    have again : ∀ {σ7 : St} {H7 : Hp}, Inv X (pins ++ pinsAt fp s5.heap) σ7 H7 s7 → N σ7 H7 → ∃ m, m < n ∧ ∃ i σ' H', Inv X pins σ' H' s7 ∧ tn i s7.heap ∧ (∀ b ∈ fp, H' b = none) ∧ W i m σ' H' := fun {σ7 H7} I7 n7 => by
      obtain ⟨m', hm, w7⟩ := hN σ7 H7 n7
      refine ⟨m', hm, i + 1, σ7, H7, I7.unpinned, T.keep _ _ _ st5 fun b hb o e => (I7.pin (b, o) (List.mem_append_right _ (List.mem_append_right _ (mem_pinsAt hb e)))).1, fun b hb => ?_, w7⟩
      obtain ⟨o, e, d⟩ := T.obj _ _ st5 b hb
      exact (I7.pin (b, o) (List.mem_append_right _ (List.mem_append_right _ (mem_pinsAt hb e)))).2.1
    cases f with
    | next => obtain ⟨σ7, H7, I7, n7⟩ := q7; exact again I7 n7
    | cont => obtain ⟨σ7, H7, I7, n7⟩ := q7; exact again I7 n7
    | brk => obtain ⟨σ7, H7, I7, q7⟩ := q7; exact ⟨σ7, H7, I7.unpinned, q7⟩
    | ret v => obtain ⟨x7, σ7, H7, I7, r7, q7⟩ := q7; exact ⟨x7, σ7, H7, I7.unpinned, r7, q7⟩
end

/-! ### the forms one uses -/
/-- over a list that the body leaves as it is -/
theorem for_list {K : PySem.W.Frag} {a : Addr} {xs : List V} {g : TG} {tb : TS} {D : Ends} {σ : St} {H : Hp} (Pv : Nat → St → Hp → Prop) (h0 : Pv 0 σ H) (hl : ∀ i σ H, i ≤ xs.length → Pv i σ H → SqL K H a xs)
    (hs : ∀ i x σ H, xs[i]? = some x → Pv i σ H → g x σ H fun σ2 H2 => tb { D with nx := Pv (i + 1), ct := Pv (i + 1), bk := D.nx } σ2 H2) (hd : ∀ σ H, Pv xs.length σ H → D.nx σ H) :
    ∃ W : Nat → Nat → St → Hp → Prop, (∃ m, W 0 m σ H) ∧ ∀ i m σ H, W i m σ H →
      ((Itl K a).stop i H ∧ D.nx σ H) ∨ ((Itl K a).go i H ∧ ∃ N : St → Hp → Prop, (∀ σ' H', N σ' H' → ∃ m', m' < m ∧ W (i + 1) m' σ' H') ∧ ∀ x H', (Itl K a).yld i H x H' → g x σ H' fun σ2 H2 => tb { D with nx := N, ct := N, bk := D.nx } σ2 H2) := by
  refine ⟨fun i m σ H => m = xs.length - i ∧ i ≤ xs.length ∧ Pv i σ H, ⟨xs.length, by simp, Nat.zero_le _, h0⟩, ?_⟩
  rintro i m σ H ⟨rfl, hi, p⟩
  have q := hl i σ H hi p
  by_cases hlt : i < xs.length
  · refine .inr ⟨⟨xs, xs[i], q, by simp [hlt]⟩, Pv (i + 1), fun σ' H' p' => ⟨xs.length - (i + 1), by omega, rfl, hlt, p'⟩, fun x H' y => ?_⟩
    obtain ⟨e, y⟩ := y
    subst e
    exact hs i x σ _ (y xs q) p
  · have e : i = xs.length := by omega
    subst e
    exact .inl ⟨⟨xs, q, Nat.le_refl _⟩, hd σ H p⟩
theorem for_range {lo : Int} {n : Nat} {g : TG} {tb : TS} {D : Ends} {σ : St} {H : Hp} (Pv : Nat → St → Hp → Prop) (h0 : Pv 0 σ H)
    (hs : ∀ i σ H, i < n → Pv i σ H → g (.int (lo + i)) σ H fun σ2 H2 => tb { D with nx := Pv (i + 1), ct := Pv (i + 1), bk := D.nx } σ2 H2) (hd : ∀ σ H, Pv n σ H → D.nx σ H) :
    ∃ W : Nat → Nat → St → Hp → Prop, (∃ m, W 0 m σ H) ∧ ∀ i m σ H, W i m σ H →
      ((Itr lo n).stop i H ∧ D.nx σ H) ∨ ((Itr lo n).go i H ∧ ∃ N : St → Hp → Prop, (∀ σ' H', N σ' H' → ∃ m', m' < m ∧ W (i + 1) m' σ' H') ∧ ∀ x H', (Itr lo n).yld i H x H' → g x σ H' fun σ2 H2 => tb { D with nx := N, ct := N, bk := D.nx } σ2 H2) := by
  refine ⟨fun i m σ H => m = n - i ∧ i ≤ n ∧ Pv i σ H, ⟨n, by simp, Nat.zero_le _, h0⟩, ?_⟩
  rintro i m σ H ⟨rfl, hi, p⟩
  by_cases hlt : i < n
  · refine .inr ⟨hlt, Pv (i + 1), fun σ' H' p' => ⟨n - (i + 1), by omega, rfl, hlt, p'⟩, fun x H' y => ?_⟩
    obtain ⟨e, y⟩ := y
    subst e y
    exact hs i σ _ hlt p
  · have e : i = n := by omega
    subst e
    exact .inl ⟨Nat.le_refl _, hd σ H p⟩
end L2

namespace L2
open PySem PySem.Spec PyProof.Rows

abbrev R2 := V → V → Hp → VK → Prop
/-- a two-place operation on values: f is binaryOp op, inplaceOp op or compareOp op -/
def OpR (X : Cx) (f : Value → Value → Sem Value) (r : R2) : Prop :=
  ∀ (pins : List (Addr × Obj)) (s : Shared) (σ : St) (H : Hp) (x y : V) (v u : Value) (Q : VK), Inv X pins σ H s → RelV x v → RelV y u → r x y H Q →
    wpAny (model X.prog X.w) X.A (f v u) (EP X pins σ Q) X.xe s
/-- a one-place operation -/
def UnR (X : Cx) (f : Value → Sem Value) (r : V → Hp → VK → Prop) : Prop :=
  ∀ (pins : List (Addr × Obj)) (s : Shared) (σ : St) (H : Hp) (x : V) (v : Value) (Q : VK), Inv X pins σ H s → RelV x v → r x H Q →
    wpAny (model X.prog X.w) X.A (f v) (EP X pins σ Q) X.xe s
/-- a call of a value that is known (a builtin, a type) with values -/
def CallR (X : Cx) (f : Value) (r : List V → Hp → VK → Prop) : Prop :=
  ∀ (pins : List (Addr × Obj)) (s : Shared) (σ : St) (H : Hp) (xs : List V) (us : List Value) (Q : VK), Inv X pins σ H s → Vals xs us → r xs H Q →
    wpAny (model X.prog X.w) X.A (call f us) (EP X pins σ Q) X.xe s
def tOp (r : R2) (ta tb : TE) : TE := fun σ H Q => ta σ H fun x H1 => tb σ H1 fun y H2 => r x y H2 Q
def tUn (r : V → Hp → VK → Prop) (ta : TE) : TE := fun σ H Q => ta σ H fun x H1 => r x H1 Q
/-- ints in, under C, and a value out -/
def rI (C : Int → Int → Prop) (g : Int → Int → V) : R2 := fun x y H Q => ∃ i j, x = .int i ∧ y = .int j ∧ C i j ∧ Q (g i j) H
def rI0 (g : Int → Int → V) : R2 := fun x y H Q => ∃ i j, x = .int i ∧ y = .int j ∧ Q (g i j) H
def rU (g : Int → V) : V → Hp → VK → Prop := fun x H Q => ∃ i, x = .int i ∧ Q (g i) H

section
variable {X : Cx} {a b c : Expr} {ta tb tc : TE} {pos : Pos}

theorem binT (ha : PE X a ta) (hb : PE X b tb) {pins : List (Addr × Obj)} {s : Shared} {σ : St} {H : Hp} {R : V → V → Hp → Prop} (I : Inv X pins σ H s)
    (h : ta σ H fun x H1 => tb σ H1 fun y H2 => R x y H2) {Q : Value → Shared → Prop} {f : Value → Value → Sem Value}
    (hf : ∀ v u s2 x y H2, Inv X pins σ H2 s2 → RelV x v → RelV y u → R x y H2 → wpAny (model X.prog X.w) X.A (f v u) Q X.xe s2) :
    wpAny (model X.prog X.w) X.A (eval a X.env) (fun v s₁ => wpAny (model X.prog X.w) X.A (eval b X.env) (fun u s₂ => wpAny (model X.prog X.w) X.A (f v u) Q X.xe s₂) X.xe s₁) X.xe s := by
  refine thn (ha pins s σ H _ I h) fun v s1 ⟨x, H1, I1, r1, q1⟩ => ?_
  refine thn (hb pins s1 σ H1 _ I1 q1) fun u s2 ⟨y, H2, I2, r2, q2⟩ => ?_
  exact hf v u s2 x y H2 I2 r1 r2 q2

theorem pe_op {op : Operator} {r : R2} (ho : OpR X (binaryOp op) r) (ha : PE X a ta) (hb : PE X b tb) : PE X (.BinOp a op b pos) (tOp r ta tb) := by
  intro pins s σ H Q I h
  exact wpAny_BinOp (binT ha hb I h fun v u s2 x y H2 I2 rx ry q => ho pins s2 σ H2 x y v u Q I2 rx ry q)
theorem pe_un {op : UnaryOp} {r : V → Hp → VK → Prop} (ho : UnR X (unaryOp op) r) (ha : PE X a ta) : PE X (.UnaryOp op a pos) (tUn r ta) := by
  intro pins s σ H Q I h
  exact UnaryOp_ (thn (ha pins s σ H _ I h) fun v s1 ⟨x, H1, I1, r1, q1⟩ => ho pins s1 σ H1 x v Q I1 r1 q1)
/-! ### ints -/
theorem opI {f : Value → Value → Sem Value} {C : Int → Int → Prop} {g : Int → Int → Int}
    (rule : ∀ (i j : Int) (t u : Tok) (s : Shared) (Q : Value → Shared → Prop) (E : Value → Shared → Prop), C i j → Q (.int (g i j) s.toks) { s with toks := s.toks + 1 } → wpAny (model X.prog X.w) X.A (f (.int i t) (.int j u)) Q E s) :
    OpR X f (rI C fun i j => .int (g i j)) := by
  intro pins s σ H x y v u Q I rx ry h
  obtain ⟨i, j, rfl, rfl, hc, q⟩ := h
  obtain ⟨t, rfl⟩ := rx
  obtain ⟨t', rfl⟩ := ry
  exact rule i j t t' s _ _ hc ⟨.int (g i j), H, I.tok _, ⟨_, rfl⟩, q⟩
theorem opI0 {f : Value → Value → Sem Value} {g : Int → Int → Int}
    (rule : ∀ (i j : Int) (t u : Tok) (s : Shared) (Q : Value → Shared → Prop) (E : Value → Shared → Prop), Q (.int (g i j) s.toks) { s with toks := s.toks + 1 } → wpAny (model X.prog X.w) X.A (f (.int i t) (.int j u)) Q E s) :
    OpR X f (rI0 fun i j => .int (g i j)) := by
  intro pins s σ H x y v u Q I rx ry h
  obtain ⟨i, j, rfl, rfl, q⟩ := h
  obtain ⟨t, rfl⟩ := rx
  obtain ⟨t', rfl⟩ := ry
  exact rule i j t t' s _ _ ⟨.int (g i j), H, I.tok _, ⟨_, rfl⟩, q⟩
theorem opB0 {f : Value → Value → Sem Value} {g : Int → Int → Bool}
    (rule : ∀ (i j : Int) (t u : Tok) (s : Shared) (Q : Value → Shared → Prop) (E : Value → Shared → Prop), Q (.bool (g i j)) s → wpAny (model X.prog X.w) X.A (f (.int i t) (.int j u)) Q E s) :
    OpR X f (rI0 fun i j => .bl (g i j)) := by
  intro pins s σ H x y v u Q I rx ry h
  obtain ⟨i, j, rfl, rfl, q⟩ := h
  obtain ⟨t, rfl⟩ := rx
  obtain ⟨t', rfl⟩ := ry
  exact rule i j t t' s _ _ ⟨.bl (g i j), H, I, rfl, q⟩

def CDiv (i j : Int) : Prop := 0 < j ∧ j < 1073741824
def CPow (i j : Int) : Prop := 0 ≤ j ∧ j ≤ 1000000 ∧ i.natAbs < 2 ^ 64
def CMul (i j : Int) : Prop := (-(2 ^ 64) < i ∧ i < 2 ^ 64) ∨ (-(2 ^ 64) < j ∧ j < 2 ^ 64)
theorem CMul.ok {i j : Int} (h : CMul i j) : IntMulOk i j := by
  rcases h with ⟨h1, h2⟩ | ⟨h1, h2⟩
  · exact .of_left (intBits_le_64 h1 h2)
  · exact .of_right (intBits_le_64 h1 h2)
theorem op_add : OpR X (binaryOp .Add) (rI0 fun i j => .int (i + j)) := opI0 fun _ _ _ _ _ _ _ q => add_int q
theorem op_sub : OpR X (binaryOp .Sub) (rI0 fun i j => .int (i - j)) := opI0 fun _ _ _ _ _ _ _ q => sub_int q
theorem op_mul : OpR X (binaryOp .Mult) (rI CMul fun i j => .int (i * j)) := opI fun _ _ _ _ _ _ _ hc q => mul_int q hc.ok
/-- // by a positive divisor -/
theorem op_fdiv : OpR X (binaryOp .FloorDiv) (rI CDiv fun i j => .int (i / j)) := opI fun i j _ _ _ _ _ hc q => by
  have h1 : (0 : Int) < j := hc.1
  have h2 : j < 1073741824 := hc.2
  exact floordiv_int (by omega) (by rw [Int.fdiv_eq_ediv_of_nonneg i (by omega)]; exact q) (.inl (PyProof.noPylong_small (by omega)))
/-- % by a positive divisor of any size -/
theorem op_mod : OpR X (binaryOp .Mod) (rI (fun _ j => 0 < j) fun i j => .int (i % j)) := opI fun i j _ _ _ _ _ hc q => by
  have h1 : (0 : Int) < j := hc
  exact mod_int' (by omega) (by rw [Int.fmod_eq_emod_of_nonneg i (by omega)]; exact q)
theorem op_pow : OpR X (binaryOp .Pow) (rI CPow fun i j => .int (i ^ j.toNat)) := opI fun _ _ _ _ _ _ _ hc q => pow_int_small hc.1 hc.2.1 hc.2.2 q
theorem unI {f : Value → Sem Value} {g : Int → Int}
    (rule : ∀ (i : Int) (t : Tok) (s : Shared) (Q : Value → Shared → Prop) (E : Value → Shared → Prop), Q (.int (g i) s.toks) { s with toks := s.toks + 1 } → wpAny (model X.prog X.w) X.A (f (.int i t)) Q E s) :
    UnR X f (rU fun i => .int (g i)) := by
  intro pins s σ H x v Q I rx h
  obtain ⟨i, rfl, q⟩ := h
  obtain ⟨t, rfl⟩ := rx
  exact rule i t s _ _ ⟨.int (g i), H, I.tok _, ⟨_, rfl⟩, q⟩
theorem un_neg : UnR X (unaryOp .USub) (rU fun i => .int (-i)) := unI fun _ _ _ _ _ q => neg_int q
/-! ### bools among ints: n += (a < b) -/
end

/-! ### comparisons -/
/-- the scalars that == tells apart as data does -/
def scal : V → V → Bool
  | .non, .non => true | .non, .int _ => true | .int _, .non => true | .non, .bl _ => true | .bl _, .non => true | .non, .str _ => true | .str _, .non => true
  | .int _, .int _ => true | .bl _, .bl _ => true | .str _, .str _ => true | .byt _, .byt _ => true
  | .int _, .str _ => true | .str _, .int _ => true | .bl _, .str _ => true | .str _, .bl _ => true
  | _, _ => false
def rEq : R2 := fun x y H Q => scal x y = true ∧ Q (.bl (decide (x = y))) H
def rNe : R2 := fun x y H Q => scal x y = true ∧ Q (.bl (!decide (x = y))) H

theorem dec_int {i j : Int} : decide (V.int i = V.int j) = (i == j) := by
  rw [Bool.eq_iff_iff]
  simp
theorem dec_bl {i j : Bool} : decide (V.bl i = V.bl j) = (i == j) := by
  rw [Bool.eq_iff_iff]
  simp
theorem dec_str {i j : Str} : decide (V.str i = V.str j) = (i == j) := by
  rw [Bool.eq_iff_iff]
  simp
theorem dec_byt {i j : Array UInt8} : decide (V.byt i = V.byt j) = (i.toList == j.toList) := by
  rw [Bool.eq_iff_iff]
  cases i
  cases j
  simp

section
variable {X : Cx} {a b c : Expr} {ta tb tc : TE} {pos : Pos}
theorem fin_bl {pins : List (Addr × Obj)} {σ : St} {H : Hp} {s : Shared} {Q : VK} {k k' : Bool} (I : Inv X pins σ H s) (q : Q (.bl k) H) (e : k = k') : EP X pins σ Q (.bool k') s := by
  subst e
  exact ⟨.bl k, H, I, rfl, q⟩
theorem op_eq : OpR X (compareOp .Eq) rEq := by
  intro pins s σ H x y v u Q I rx ry h
  obtain ⟨hs, q⟩ := h
  cases x with
  | non =>
    cases rx
    cases y with
    | non => cases ry; exact PySem.EqNone.eq_none_none (fin_bl I q (by simp))
    | bl j => cases ry; exact PySem.EqNone.eq_none_bool (fin_bl I q (by simp))
    | int j => obtain ⟨t', rfl⟩ := ry; exact PySem.EqNone.eq_none_int (fin_bl I q (by simp))
    | str j => obtain ⟨t', rfl⟩ := ry; exact PySem.EqNone.eq_none_str (fin_bl I q (by simp))
    | _ => exact absurd (show false = true from hs) Bool.false_ne_true
  | bl i =>
    cases rx
    cases y with
    | non => cases ry; exact PySem.EqNone.eq_bool_none (fin_bl I q (by simp))
    | bl j => cases ry; exact eq_bool (fin_bl I q dec_bl)
    | str j => obtain ⟨t', rfl⟩ := ry; exact PySem.EqMixed.eq_bool_str (fin_bl I q (by simp))
    | _ => exact absurd (show false = true from hs) Bool.false_ne_true
  | int i =>
    obtain ⟨t, rfl⟩ := rx
    cases y with
    | non => cases ry; exact PySem.EqNone.eq_int_none (fin_bl I q (by simp))
    | int j => obtain ⟨t', rfl⟩ := ry; exact eq_int (fin_bl I q dec_int)
    | str j => obtain ⟨t', rfl⟩ := ry; exact PySem.EqMixed.eq_int_str (fin_bl I q (by simp))
    | _ => exact absurd (show false = true from hs) Bool.false_ne_true
  | str i =>
    obtain ⟨t, rfl⟩ := rx
    cases y with
    | non => cases ry; exact PySem.EqNone.eq_str_none (fin_bl I q (by simp))
    | bl j => cases ry; exact PySem.EqMixed.eq_str_bool (fin_bl I q (by simp))
    | int j => obtain ⟨t', rfl⟩ := ry; exact PySem.EqMixed.eq_str_int (fin_bl I q (by simp))
    | str j => obtain ⟨t', rfl⟩ := ry; exact eq_str (fin_bl I q dec_str)
    | _ => exact absurd (show false = true from hs) Bool.false_ne_true
  | byt i =>
    obtain ⟨t, rfl⟩ := rx
    cases y with
    | byt j => obtain ⟨t', rfl⟩ := ry; exact PySem.W.eq_bytes (fin_bl I q dec_byt)
    | _ => exact absurd (show false = true from hs) Bool.false_ne_true
  | _ => cases y <;> exact absurd (show false = true from hs) Bool.false_ne_true
theorem op_ne : OpR X (compareOp .NotEq) rNe := by
  intro pins s σ H x y v u Q I rx ry h
  obtain ⟨hs, q⟩ := h
  cases x with
  | non =>
    cases rx
    cases y with
    | non => cases ry; exact PySem.EqNone.ne_none_none (fin_bl I q (by simp))
    | bl j => cases ry; exact PySem.EqNone.ne_none_bool (fin_bl I q (by simp))
    | int j => obtain ⟨t', rfl⟩ := ry; exact PySem.EqNone.ne_none_int (fin_bl I q (by simp))
    | str j => obtain ⟨t', rfl⟩ := ry; exact PySem.EqNone.ne_none_str (fin_bl I q (by simp))
    | _ => exact absurd (show false = true from hs) Bool.false_ne_true
  | bl i =>
    cases rx
    cases y with
    | non => cases ry; exact PySem.EqNone.ne_bool_none (fin_bl I q (by simp))
    | bl j => cases ry; exact ne_bool (fin_bl I q (congrArg not dec_bl))
    | str j => obtain ⟨t', rfl⟩ := ry; exact PySem.EqMixed.ne_bool_str (fin_bl I q (by simp))
    | _ => exact absurd (show false = true from hs) Bool.false_ne_true
  | int i =>
    obtain ⟨t, rfl⟩ := rx
    cases y with
    | non => cases ry; exact PySem.EqNone.ne_int_none (fin_bl I q (by simp))
    | int j => obtain ⟨t', rfl⟩ := ry; exact ne_int (fin_bl I q (congrArg not dec_int))
    | str j => obtain ⟨t', rfl⟩ := ry; exact PySem.EqMixed.ne_int_str (fin_bl I q (by simp))
    | _ => exact absurd (show false = true from hs) Bool.false_ne_true
  | str i =>
    obtain ⟨t, rfl⟩ := rx
    cases y with
    | non => cases ry; exact PySem.EqNone.ne_str_none (fin_bl I q (by simp))
    | bl j => cases ry; exact PySem.EqMixed.ne_str_bool (fin_bl I q (by simp))
    | int j => obtain ⟨t', rfl⟩ := ry; exact PySem.EqMixed.ne_str_int (fin_bl I q (by simp))
    | str j => obtain ⟨t', rfl⟩ := ry; exact ne_str (fin_bl I q (congrArg not dec_str))
    | _ => exact absurd (show false = true from hs) Bool.false_ne_true
  | byt i =>
    obtain ⟨t, rfl⟩ := rx
    cases y with
    | byt j => obtain ⟨t', rfl⟩ := ry; exact PySem.W.ne_bytes (fin_bl I q (congrArg not dec_byt))
    | _ => exact absurd (show false = true from hs) Bool.false_ne_true
  | _ => cases y <;> exact absurd (show false = true from hs) Bool.false_ne_true

theorem op_lt : OpR X (compareOp .Lt) (rI0 fun i j => .bl (decide (i < j))) := opB0 fun _ _ _ _ _ _ _ q => lt_int q
theorem op_le : OpR X (compareOp .LtE) (rI0 fun i j => .bl (decide (i ≤ j))) := opB0 fun _ _ _ _ _ _ _ q => le_int q
theorem op_gt : OpR X (compareOp .Gt) (rI0 fun i j => .bl (decide (j < i))) := opB0 fun _ _ _ _ _ _ _ q => gt_int q
theorem op_ge : OpR X (compareOp .GtE) (rI0 fun i j => .bl (decide (j ≤ i))) := opB0 fun _ _ _ _ _ _ _ q => ge_int q
/-- the one string within the other -/
theorem op_in_str : OpR X (compareOp .In) (fun x y H Q => ∃ i j, x = .str i ∧ y = .str j ∧ Q (.bl (!(Builtin.Str.occurrences j i 0 j.length 1).isEmpty)) H) := by
  intro pins s σ H x y v u Q I rx ry h
  obtain ⟨i, j, rfl, rfl, q⟩ := h
  obtain ⟨t, rfl⟩ := rx
  obtain ⟨t', rfl⟩ := ry
  exact in_str (fin_bl I q rfl)

/-- is None, is not None: the right side a value none -/
theorem op_isN : OpR X (compareOp .Is) (fun x y H Q => y = .non ∧ Q (.bl (decide (x = .non))) H) := by
  intro pins s σ H x y v u Q I rx ry h
  obtain ⟨rfl, q⟩ := h
  cases ry
  refine is_none_gen (fin_bl I q ?_)
  cases x <;> first
    | (cases rx; rfl)
    | (obtain ⟨t, rfl⟩ := rx; rfl)
theorem nomark (b : Expr) {op : CmpOp} (h : op ≠ .In := by decide) (h2 : op ≠ .NotIn := by decide) : behindInMarks op b = false := by
  have e1 : (op == CmpOp.In) = false := by cases op <;> first | rfl | exact absurd rfl h
  have e2 : (op == CmpOp.NotIn) = false := by cases op <;> first | rfl | exact absurd rfl h2
  cases b <;> simp [behindInMarks, e1, e2]
/-- a comparison as a value; hm: nomark b, or (for in, not in) by with_unfolding_all rfl -/
theorem pe_cmpR {op : CmpOp} {r : R2} (ho : OpR X (compareOp op) r) (ha : PE X a ta) (hb : PE X b tb) (hm : behindInMarks op b = false) : PE X (.Compare a [op] [b] pos) (tOp r ta tb) := by
  intro pins s σ H Q I h
  exact wpAny_Compare1 (binT ha hb I h fun v u s2 x y H2 I2 rx ry q => ho pins s2 σ H2 x y v u Q I2 rx ry q) hm
/-- a reading of a value as a test -/
def tTest (t : TE) : TT := fun σ H Q => t σ H fun x H' => ∃ k, x = .bl k ∧ Q k H'
theorem pt_cmpR {op : CmpOp} {r : R2} (ho : OpR X (compareOp op) r) (ha : PE X a ta) (hb : PE X b tb) (hm : behindInMarks op b = false) : PT X (.Compare a [op] [b] pos) (tTest (tOp r ta tb)) := by
  intro pins s σ H Q I h
  refine wpAny_isTrue_Compare1 (thn (ha pins s σ H _ I h) fun v s1 ⟨x, H1, I1, r1, q1⟩ => thn (hb pins s1 σ H1 _ I1 q1) fun u s2 ⟨y, H2, I2, r2, q2⟩ =>
    thn (ho pins s2 σ H2 x y v u _ I2 r1 r2 q2) fun c s3 ⟨z, H3, I3, r3, k, e, q3⟩ => ?_) hm
  subst e
  cases r3
  exact wpAny_truthy_bool ⟨H3, I3, q3⟩
/-- a op1 b op2 c -/
def tChain (r r' : R2) (ta tb tc : TE) : TE := fun σ H Q => ta σ H fun x H1 => tb σ H1 fun y H2 => r x y H2 fun z H3 => ∃ k, z = .bl k ∧
  (if k = true then tc σ H3 fun w' H4 => r' y w' H4 Q else Q (.bl false) H3)
theorem pt_chain {op op' : CmpOp} {r r' : R2} (ho : OpR X (compareOp op) r) (ho' : OpR X (compareOp op') r') (ha : PE X a ta) (hb : PE X b tb) (hc : PE X c tc)
    (hm : lastMarks [op, op'] [b, c] = false := by with_unfolding_all rfl) : PT X (.Compare a [op, op'] [b, c] pos) (tTest (tChain r r' ta tb tc)) := by
  intro pins s σ H Q I h
  refine isTrue_chain (thn (ha pins s σ H _ I h) fun v s1 ⟨x, H1, I1, r1, q1⟩ => test_link (thn (hb pins s1 σ H1 _ I1 q1) fun u s2 ⟨y, H2, I2, r2, q2⟩ =>
    thn (ho pins s2 σ H2 x y v u _ I2 r1 r2 q2) fun d s3 ⟨z, H3, I3, r3, k, e, q3⟩ => ?_)) hm
  subst e
  cases r3
  refine wpAny_truthy_bool ?_
  cases k with
  | false =>
    obtain ⟨k', e', q'⟩ := q3
    cases e'
    exact ite_ff ⟨H3, I3, q'⟩
  | true =>
    refine ite_tt (test_last (thn (hc pins s3 σ H3 _ I3 q3) fun w' s4 ⟨z', H4, I4, r4, q4⟩ => thn (ho' pins s4 σ H4 y z' u w' _ I4 r2 r4 q4) fun d' s5 ⟨z2, H5, I5, r5, k2, e2, q5⟩ => ?_))
    subst e2
    cases r5
    exact wpAny_truthy_bool ⟨H5, I5, q5⟩

/-! ### truth -/
theorem line63 : (sizeLine : Nat) < 2 ^ 63 := by rw [sizeLine_eq]; decide
/-! ### strs and bytes -/
theorem op_add_str : OpR X (binaryOp .Add) (fun x y H Q => ∃ i j, x = .str i ∧ y = .str j ∧ i.length + j.length ≤ sizeLine ∧ Q (.str (i ++ j)) H) := by
  intro pins s σ H x y v u Q I rx ry h
  obtain ⟨i, j, rfl, rfl, hz, q⟩ := h
  obtain ⟨t, rfl⟩ := rx
  obtain ⟨t', rfl⟩ := ry
  exact add_str (fun t' tk => ⟨.str (i ++ j), H, I.tok _, ⟨_, rfl⟩, q⟩) hz
/-! ### scalar builtins, by CallR -/
theorem vals1 {x : V} {us : List Value} (r : Vals [x] us) : ∃ u, us = [u] ∧ RelV x u := by
  cases r with
  | cons r1 r2 => cases r2; exact ⟨_, rfl, r1⟩
theorem vals2 {x y : V} {us : List Value} (r : Vals [x, y] us) : ∃ u w', us = [u, w'] ∧ RelV x u ∧ RelV y w' := by
  cases r with
  | cons r1 r2 =>
    cases r2 with
    | cons r3 r4 => cases r4; exact ⟨_, _, rfl, r1, r3⟩
theorem call_str_int : CallR X (.type "str") (fun xs H Q => ∃ i, xs = [.int i] ∧ i.natAbs.log2 < 1920 ∧ Q (.str (toString i)) H) := by
  intro pins s σ H xs us Q I r h
  obtain ⟨i, rfl, hz, q⟩ := h
  obtain ⟨u, rfl, t, rfl⟩ := vals1 r
  exact PySem.P.str_of_int hz ⟨.str _, H, I.tok _, ⟨_, rfl⟩, q⟩
end
end L2

namespace L2
open PySem PySem.Spec PyProof.Rows

/-! ### an instance, its attributes a map -/
section
variable {prog : Program} {w : World} {A : Around} {E : Value → Shared → Prop} {s : Shared} {K : PySem.W.Frag} {x dx C f : Addr} {mA : Str → Option Value} {name : Str} {v : Value}

end

/-! ### the attributes as a list of pairs -/
section
variable {P : Program} {w : World} {H H' : Hp} {h h' : Heap} {a C dx : Addr} {fs fs' : List (Str × V)}
end

/-! ### what of the text a class must have -/
section
variable {X : Cx} {pins : List (Addr × Obj)} {σ : St} {H : Hp} {s : Shared} {a C dx : Addr} {fs : List (Str × V)} {f : Str} {v : V} {A : Around} {E : Value → Shared → Prop}

end

/-! ### readings and rules -/
section
variable {X : Cx} {o e value : Expr} {f : Str} {pos pos' tpos : Pos} {ta tv : TE}
end

/-! ### isinstance -/
section
variable {X : Cx} {pins : List (Addr × Obj)} {σ : St} {H : Hp} {s : Shared} {A : Around} {E : Value → Shared → Prop} {Q : Value → Shared → Prop} {c : Value} {b : Bool}
end
end L2

namespace L2
open PySem PySem.Spec PyProof.Rows

/-! ### room -/
structure Room (k : Nat) (A : Around) : Prop where
  hd : A.handled = none
  dp : A.depth + 3 * k + 5 < recursionLimit
  un : A.units + 16 * k + 200 < cLine
theorem Room.mono {j k : Nat} {A : Around} (r : Room k A) (h : j ≤ k) : Room j A := ⟨r.hd, by have := r.dp; omega, by have := r.un; omega⟩
theorem Room.deeper {k : Nat} {A : Around} (r : Room (k + 1) A) (env : Env) : Room k (A.deeper env) :=
  ⟨r.hd, by have := r.dp; show A.depth + 1 + 3 * k + 5 < _; omega, by have := r.un; show A.units + 3 + 16 * k + 200 < _; omega⟩
theorem Room.depth {k : Nat} {A : Around} (r : Room k A) : A.depth < recursionLimit := by have := r.dp; omega
/-! ### argument lists and displays -/
def tNil : TA := fun _ H Q => Q [] H
def tCons (ta : TE) (tr : TA) : TA := fun σ H Q => ta σ H fun x H1 => tr σ H1 fun xs H2 => Q (x :: xs) H2
section
variable {X : Cx} {e : Expr} {es : List Expr} {te : TE} {t : TA} {pos : Pos}
theorem pa_nil : PA X [] tNil := fun _ _ _ _ H Q I h => Calls.spliced_nil ⟨[], H, I, .nil, h⟩
theorem pa_cons (ha : PE X e te) (hr : PA X es t) (hs : starEach (e :: es) X.env = (false, eval e X.env) :: starEach es X.env := by rfl) : PA X (e :: es) (tCons te t) := by
  intro pos pins s σ H Q I h
  rw [hs]
  show wpAny _ _ (spliced ((false, eval e X.env) :: backTo pos (starEach es X.env))) _ _ s
  refine Calls.spliced_cons (thn (ha pins s σ H _ I h) fun u s1 ⟨x, H1, I1, r1, q1⟩ => ?_)
  exact thn (hr pos pins s1 σ H1 _ I1 q1) fun us s2 ⟨xs, H2, I2, r2, q2⟩ => ⟨x :: xs, H2, I2, .cons r1 r2, q2⟩

end

/-! ### what a def promises -/
/-- a def's promise: the bound arguments in the parameters' order, the heap, the wanted end, the wanted exception -/
abbrev Sp := List V → Hp → VK → XK → Prop
/-- how an exception lies behind a call (file 08 gives it): the callers' frames, abstract heap and state ahead of the call, the wish, the exception, the state -/
abbrev CXT := List Env → Hp → Shared → XK → Value → Shared → Prop

/-- the state at a call -/
structure Env0 (P : Program) (w : World) (K : PySem.W.Frag) (mg : Str → Option Value) (base : Heap) (A : Around) (outer : List Env) (s : Shared) (H : Hp) : Prop where
  frames : A.frames = some outer
  mod : Mod K mg base
  bs : ∀ b o, base.get? b = some o → s.heap.get? b = some o ∧ H b = none
  bsz : base.objs.size ≤ s.heap.objs.size
  funs : s.heap.FunFrames base outer
  frf : ∀ b ∈ frs outer, H b = none
  hok : HOk P w H s.heap
  bare : AllBare s.gens
/-- a call's end -/
def CE (outer : List Env) (P : Program) (w : World) (H : Hp) (s : Shared) (Q : VK) (u : Value) (s' : Shared) : Prop :=
  ∃ v H', s'.os = s.os ∧ AllBare s'.gens ∧ Un (frs outer) [] H H' s.heap s'.heap ∧ HOk P w H' s'.heap ∧ RelV v u ∧ Q v H'
def CR (CX : CXT) (outer : List Env) (P : Program) (w : World) (H : Hp) (s : Shared) (Q : VK) (E : XK) (r : Result) (s' : Shared) : Prop :=
  match r with
  | .ok (.ret u) => CE outer P w H s Q u s'
  | .ok _ => False
  | .error e => CX outer H s E e s'
structure FnOk (P : Program) (w : World) (K : PySem.W.Frag) (mg : Str → Option Value) (base : Heap) (CX : CXT) (k : Nat) (f : Addr) (fd : FuncData) (ps : List Str) (sp : Sp) : Prop where
  len : ∀ vs H Q E, sp vs H Q E → vs.length = ps.length
  run : ∀ (A : Around) (outer : List Env) (s : Shared) (H : Hp) (args : Args) (us : List Value) (vs : List V) (Q : VK) (E : XK), Room k A → Env0 P w K mg base A outer s H → BindsTo s fd args (ps.zip us) → Vals vs us → sp vs H Q E →
    codeAny (model P w) A (.call (.ref f) args) (CR CX outer P w H s Q E) s
section
variable {X : Cx} {pins : List (Addr × Obj)} {σ : St} {H : Hp} {s s' : Shared}
/-- from a body: what a callee wants -/
theorem Inv.env0 (I : Inv X pins σ H s) : Env0 X.prog X.w X.K X.mg X.base X.A X.stack s H :=
  ⟨I.ok.frames, I.ok.mod, I.bs, Nat.le_trans I.ok.bsz I.sz, I.stack, I.stkFree, I.hok, I.bare⟩
/-- behind a call -/
theorem Inv.after {Q : VK} {u : Value} (I : Inv X pins σ H s) (h : CE X.stack X.prog X.w H s Q u s') : EP X pins σ Q u s' := by
  obtain ⟨v, H', os, bare, un, hok, r, q⟩ := h
  obtain ⟨hh, g, d, t, os'⟩ := s'
  obtain rfl : os' = s.os := os
  exact ⟨v, H', I.call (h' := hh) (g' := g) (d' := d) (t' := t) (ch := []) un hok bare (fun b z => absurd z (by simp)), r, q⟩
end

/-! ### calls -/
/-- f(..): the written arguments, then the defaults dvs; E: what is wanted of an exception -/
def tCall (sp : Sp) (dvs : List V) (E : XK) (t : TA) : TE := fun σ H Q => t σ H fun vs H1 => sp (vs ++ dvs) H1 Q E
/-- how the parameters are bound: us the positional arguments, kw the keywords' values by name, ds the defaults that fill up -/
def Binds (K : PySem.W.Frag) (fd : FuncData) (ps : List Str) (ds : List Value) : Prop :=
  ∀ (s : Shared) (us : List Value), K.In s.heap → (us ++ ds).length = ps.length → BindsTo s fd ⟨us, []⟩ (ps.zip (us ++ ds))
/-- every parameter is given -/
theorem Binds.all {K : PySem.W.Frag} {fd : FuncData} {ps : List Str} (h : ∀ us : List Value, us.length = ps.length → bindArgs fd ⟨us, []⟩ = pure (ps.zip us)) : Binds K fd ps [] := fun s us _ hl => by
  rw [List.append_nil] at hl ⊢
  exact .of_eq (h us hl)

/-- an exception of a callee reaches what this body wants of exceptions -/
def Passes (CX : CXT) (X : Cx) (E : XK) : Prop := ∀ (pins : List (Addr × Obj)) (σ : St) (H : Hp) (s : Shared) (e : Value) (s' : Shared), Inv X pins σ H s → CX X.stack H s E e s' → X.xe e s'

section
variable {X : Cx} {CX : CXT} {k : Nat} {f C : Addr} {fd : FuncData} {ps : List Str} {sp : Sp} {dvs : List V} {ds : List Value} {E : XK} {x m : Str} {p pos apos : Pos} {e o : Expr} {es : List Expr} {ta : TE} {t : TA}

/-- the callee runs -/
theorem run_fn {pins : List (Addr × Obj)} {σ : St} {H : Hp} {s : Shared} {Q : VK} {us : List Value} {vs : List V} (F : FnOk X.prog X.w X.K X.mg X.base CX k f fd ps sp) (hr : Room k X.A) (hb : Binds X.K fd ps ds) (hd : Vals dvs ds) (hx : Passes CX X E)
    (I : Inv X pins σ H s) (r : Vals vs us) (h : sp (vs ++ dvs) H Q E) : wpAny (model X.prog X.w) X.A (call (.ref f) us) (EP X pins σ Q) X.xe s := by
  have r2 : Vals (vs ++ dvs) (us ++ ds) := r.append hd
  have hl : (us ++ ds).length = ps.length := by rw [← r2.length]; exact F.len _ _ _ _ h
  refine wpAny_call (codeAny_mono (F.run X.A X.stack s H ⟨us, []⟩ (us ++ ds) (vs ++ dvs) Q E hr I.env0 (hb s us I.kIn hl) r2 h) fun r s' hq => ?_)
  cases r with
  | error e => exact hx pins σ H s e s' I hq
  | ok fl =>
    cases fl with
    | ret u => exact I.after hq
    | next => exact False.elim hq
    | brk => exact False.elim hq
    | cont => exact False.elim hq

theorem pe_call (F : FnOk X.prog X.w X.K X.mg X.base CX k f fd ps sp) (hr : Room k X.A) (hg : Gl X x) (hm : X.mg x = some (.ref f)) (hk : PySem.W.keepIn X.K (.ref f) = true) (hb : Binds X.K fd ps ds) (hd : Vals dvs ds) (hx : Passes CX X E)
    (ha : PA X (e :: es) t) (hdb : (x == ("__debug__" : Str)) = false := by decide) (he : starEach (e :: es) X.env = (false, eval e X.env) :: starEach es X.env := by rfl) (hpl : (backTo pos (starEach es X.env)).any (·.1) = false := by rfl) :
    PE X (.Call (.Name x p) (e :: es) [] pos) (tCall sp dvs E t) := by
  intro pins s σ H Q I h
  refine wpAny_Call_Name_kw (ld_glob I hg hm ?_ hdb)
  refine PySem.W.callWith_K (h₀ := X.base) I.ok.mod.kin hk (thn (ha pos pins s σ H _ I h) fun us s1 ⟨vs, H1, I1, r, q⟩ => ⟨I1.kIn, ?_⟩) he hpl
  exact run_fn F hr hb hd hx I1 r q
end

/-! ### keywords -/
section
variable {X : Cx} {CX : CXT} {k : Nat} {f C : Addr} {fd : FuncData} {ps ks : List Str} {sp : Sp} {E : XK} {x m : Str} {p pos apos kpos : Pos} {e o : Expr} {es : List Expr} {kws : List Keyword} {te ta : TE} {t tk : TA} {nm : Option Str}
variable {g : List Value → List Value → List Value} {gV : List V → List V → List V}
end

/-! ### a def's body keeps its promise -/
/-- names: the parameters first -/
structure FnScope (N P : List Str) (sc : Scope) : Prop where
  kind : sc.kind = .function
  co : sc.isCoroutine = false
  gen : sc.isGenerator = false
  nd : N.Nodup
  pre : N.take P.length = P
  par : ∀ x ∈ P, sc.names.lookup x = some .local ∨ sc.names.lookup x = some .cell
  nofree : ∀ y ∈ sc.names, y.2 ≠ .free

theorem bindL_out {kindOf : Str → Option NameKind} {x : Str} : ∀ {binds : List (Str × Value)} {m : Str → Option Value}, (∀ v, (x, v) ∉ binds) → bindL kindOf binds m x = m x
  | [], _, _ => rfl
  | (n, v) :: r, m, h => by
    unfold bindL
    rw [bindL_out fun w hw => h w (List.mem_cons_of_mem _ hw)]
    split
    · have : x ≠ n := by rintro rfl; exact h v List.mem_cons_self
      simp [this]
    · rfl
theorem bindC_out {kindOf : Str → Option NameKind} {x : Str} : ∀ {binds : List (Str × Value)} {m : Str → Option Value}, (∀ v, (x, v) ∉ binds) → bindC kindOf binds m x = m x
  | [], _, _ => rfl
  | (n, v) :: r, m, h => by
    unfold bindC
    rw [bindC_out fun w hw => h w (List.mem_cons_of_mem _ hw)]
    split
    · rfl
    · have : x ≠ n := by rintro rfl; exact h v List.mem_cons_self
      simp [this]
theorem bindL_get {kindOf : Str → Option NameKind} {x : Str} {v : Value} : ∀ {P : List Str} {vs : List Value} {i : Nat} {m : Str → Option Value}, P.Nodup → P[i]? = some x → vs[i]? = some v → kindOf x = some .local →
    bindL kindOf (P.zip vs) m x = some v
  | [], _, _, _, _, h, _, _ => by simp at h
  | _ :: _, [], _, _, _, _, h, _ => by simp at h
  | p :: P, w :: vs, 0, m, nd, h1, h2, hk => by
    simp at h1 h2; subst h1; subst h2
    show bindL kindOf ((p, w) :: P.zip vs) m p = _
    unfold bindL
    rw [bindL_out fun v hv => (List.nodup_cons.mp nd).1 (List.of_mem_zip hv).1, if_pos hk]
    simp
  | p :: P, w :: vs, i + 1, m, nd, h1, h2, hk => by
    show bindL kindOf ((p, w) :: P.zip vs) m x = _
    unfold bindL
    exact bindL_get (i := i) (List.nodup_cons.mp nd).2 (by simpa using h1) (by simpa using h2) hk
theorem bindC_get {kindOf : Str → Option NameKind} {x : Str} {v : Value} : ∀ {P : List Str} {vs : List Value} {i : Nat} {m : Str → Option Value}, P.Nodup → P[i]? = some x → vs[i]? = some v → kindOf x ≠ some .local →
    bindC kindOf (P.zip vs) m x = some v
  | [], _, _, _, _, h, _, _ => by simp at h
  | _ :: _, [], _, _, _, _, h, _ => by simp at h
  | p :: P, w :: vs, 0, m, nd, h1, h2, hk => by
    simp at h1 h2; subst h1; subst h2
    show bindC kindOf ((p, w) :: P.zip vs) m p = _
    unfold bindC
    rw [bindC_out fun v hv => (List.nodup_cons.mp nd).1 (List.of_mem_zip hv).1, if_neg hk]
    simp
  | p :: P, w :: vs, i + 1, m, nd, h1, h2, hk => by
    show bindC kindOf ((p, w) :: P.zip vs) m x = _
    unfold bindC
    exact bindC_get (i := i) (List.nodup_cons.mp nd).2 (by simpa using h1) (by simpa using h2) hk

/-- the names' values at the entry -/
def start (N : List Str) (vs : List V) : St := vs.map some ++ List.replicate (N.length - vs.length) none

/-- the context of a def's body, at its entry; an exception leaves the frame, then lies as CX says -/
def cxOf (CX : CXT) (P : Program) (w : World) (K : PySem.W.Frag) (mg : Str → Option Value) (base : Heap) (N : List Str) (qual : Str) (scope : Scope) (f : Addr) (cd : Value) (A : Around) (outer : List Env) (s : Shared) (H : Hp) (E : XK) : Cx where
  prog := P
  w := w
  K := K
  mg := mg
  base := base
  A := A.deeper (envOfC qual scope s.heap.objs.size f cd)
  N := N
  s₀ := s
  H₀ := H
  env := envOfC qual scope s.heap.objs.size f cd
  outer := outer
  stack := envOfC qual scope s.heap.objs.size f cd :: outer
  ex := []
  calm := true
  fn := fun _ => true
  pn := []
  xe := fun e s' => wpAny (model P w) (A.deeper (envOfC qual scope s.heap.objs.size f cd)) (leaving (envOfC qual scope s.heap.objs.size f cd) e) (fun _ s'' => CX outer H s E e s'') (fun e' s'' => CX outer H s E e' s'') s'

theorem cell_has {sc : Scope} {n : Nat} {x : Str} (h : sc.names.lookup x = some .cell) : ∃ c, (cellsFrom n sc.names []).lookup x = some c := by
  have q := PySem.W.cellsFrom_some sc.names n [] (.inl h)
  exact Option.isSome_iff_exists.mp q

theorem inv_start {CX : CXT} {P : Program} {w : World} {K : PySem.W.Frag} {mg : Str → Option Value} {base : Heap} {N ps : List Str} {qual : Str} {scope : Scope} {f : Addr} {cd : Value} {A : Around} {outer : List Env} {s s1 : Shared} {H : Hp} {E : XK} {us : List Value} {vs : List V}
    (S : FnScope N ps scope) (hd : A.handled = none) (e0 : Env0 P w K mg base A outer s H) (hl : vs.length = ps.length) (r : Vals vs us)
    (x : InCallC s s.heap.objs.size (bindL (envOfC qual scope s.heap.objs.size f cd).kindOf (ps.zip us) fun _ => none) (cellsFrom (s.heap.objs.size + 1) scope.names []) (bindC (envOfC qual scope s.heap.objs.size f cd).kindOf (ps.zip us) fun _ => none) s1) :
    Inv (cxOf CX P w K mg base N qual scope f cd A outer s H E) [] (start N vs) H s1 := by
  have hpl : ps.length ≤ N.length := by have := congrArg List.length S.pre; rw [List.length_take] at this; omega
  obtain ⟨h1, tk, rfl, hk⟩ := x.done
  have noA : ∀ b : Addr, b ∉ (cxOf CX P w K mg base N qual scope f cd A outer s H E).ex := fun b z => absurd (show b ∈ ([] : List Addr) from z) (by simp)
  refine ⟨⟨e0.mod, S.kind, rfl, rfl, Nat.le_refl _, fun y z c h1 h2 => ?_, fun y hy => ?_, fun y c _ h => ?_, fun _ => hd, Around.frames_deeper e0.frames, .inr ⟨rfl, rfl⟩, fun b z => absurd z (noA b), e0.bs, e0.bsz, fun b _ _ => noA b, fun b z => absurd z (noA b), e0.funs, e0.frf⟩,
    rfl, e0.bare, Un.kept hk, ⟨_, x.toInCall.ns, fun i y v h1 h2 h3 => ?_⟩, fun y c h => ⟨_, x.cell y c h⟩, e0.hok.fresh (Nat.le_refl _), fun y c h => ?_, fun p hp => absurd (show p ∈ ([] : List (Addr × Obj)) from hp) (by simp), e0.hok.kept hk, ?_⟩
  · exact name_of_addr x.apart (PySem.mem_of_lookup h1) (PySem.mem_of_lookup h2)
  · have hy : scope.names.lookup y = some .cell ∨ scope.names.lookup y = some .free := hy
    rcases hy with hy | hy
    · exact cell_has hy
    · exact absurd rfl (S.nofree _ (PySem.mem_of_lookup hy))
  · exact Nat.le_of_lt (x.above y c (PySem.mem_of_lookup h))
  · have hi : i < vs.length := by
      unfold start at h2
      by_cases hi : i < vs.length
      · exact hi
      · rw [List.getElem?_append_right (by simpa using hi)] at h2
        rw [List.getElem?_replicate] at h2
        split at h2 <;> cases h2
    have ha : vs[i]? = some v := by
      unfold start at h2
      rw [List.getElem?_append_left (by simpa using hi), List.getElem?_map] at h2
      cases e : vs[i]? with
      | none => rw [e] at h2; cases h2
      | some a => rw [e] at h2; cases h2; rfl
    obtain ⟨u, hu, rv⟩ := r.get ha
    have hp : ps[i]? = some y := by
      rw [← S.pre, List.getElem?_take_of_lt (by omega)]; exact h1
    have ndP : ps.Nodup := by rw [← S.pre]; exact S.nd.sublist (List.take_sublist _ _)
    refine ⟨u, rv, ?_⟩
    rcases S.par y (List.mem_of_getElem? hp) with k | k
    · exact .inl ⟨k, bindL_get ndP hp hu k⟩
    · obtain ⟨c, e⟩ := cell_has (n := s.heap.objs.size + 1) k
      refine .inr ⟨.inl k, c, e, ?_⟩
      have q := x.cell y c e
      rw [bindC_get ndP hp hu (by show scope.names.lookup y ≠ _; rw [k]; decide)] at q
      exact q
  · exact e0.hok.fresh (Nat.le_of_lt (x.above y c (PySem.mem_of_lookup h)))
  · unfold start
    show _ = N.length
    rw [List.length_append, List.length_map, List.length_replicate]
    omega

/-- THE RULE: a def (or a method) of the text, by its body. The body's reading t is chosen for each entry; it is run at the parameters' values -/
theorem fn_of {CX : CXT} {P : Program} {w : World} {K : PySem.W.Frag} {mg : Str → Option Value} {base : Heap} {k : Nat} {f : Addr} {name qual : Str} {params : Arguments} {body : List Stmt} {scope : Scope} {dV kV doc pm cdv ct oc : Value} {an od : Option Addr}
    {osl : Array (Option Value)} {N ps : List Str} {sp : Sp} (lk : K.lookup f = some ⟨oc, od, .func (PySem.W.fnOf name qual params body scope dV kV doc pm an cdv ct), osl⟩) (hcd : PySem.W.codeIn K cdv qual = true) (S : FnScope N ps scope)
    (len : ∀ vs H Q E, sp vs H Q E → vs.length = ps.length)
    (hbody : ∀ (A : Around) (outer : List Env) (s : Shared) (H : Hp) (vs : List V) (Q : VK) (E : XK), Room k (A.deeper (envOfC qual scope s.heap.objs.size f cdv)) → sp vs H Q E →
      ∃ t, PSs (cxOf CX P w K mg base N qual scope f cdv A outer s H E) body t ∧ t { nx := fun _ H' => Q .non H', rt := Q } (start N vs) H) :
    FnOk P w K mg base CX (k + 1) f (PySem.W.fnOf name qual params body scope dV kV doc pm an cdv ct) ps sp := by
  refine ⟨len, fun A outer s H args us vs Q E hr e0 hb r hsp => ?_⟩
  have hl := len _ _ _ _ hsp
  have KX : K.In s.heap := e0.mod.kin.keeps fun b o e => (e0.bs b o e).1
  have lim : s.heap.NoLimit := e0.mod.nolimit.keeps fun b o e => (e0.bs b o e).1
  have hkind : ∀ y ∈ ps.zip us, scope.names.lookup y.1 = some .local ∨ (scope.names.lookup y.1 = some .cell ∧ ((cellsFrom (s.heap.objs.size + 1) scope.names []).lookup y.1).isSome = true) := fun ⟨n, v⟩ hy => by
    rcases S.par n (List.of_mem_zip hy).1 with q | q
    · exact .inl q
    · exact .inr ⟨q, PySem.W.cellsFrom_some _ _ _ (.inl q)⟩
  refine codeAny_call_function hr.depth (KX _ _ lk) rfl S.co S.gen rfl (PySem.W.codeRec_of KX hcd) (hb _ _ _ _ ?_)
  refine wpAny_newFunctionEnv_cells S.kind hkind fun env he s1 x => ?_
  subst he
  refine ⟨lim.keeps x.toInCall.keep, codeAny_func ?_⟩
  obtain ⟨t, ht, hq⟩ := hbody A outer s H vs Q E (hr.deeper _) hsp
  have I : Inv (cxOf CX P w K mg base N qual scope f cdv A outer s H E) [] (start N vs) H s1 := inv_start S hr.hd e0 hl r x
  refine wpAny_mono (ht [] s1 (start N vs) H _ I hq) (fun fl s' hs => ?_) fun e s' hs => hs
  have fin : ∀ {σ' : St} {H' : Hp} {v : V} {u : Value}, Inv (cxOf CX P w K mg base N qual scope f cdv A outer s H E) [] σ' H' s' → RelV v u → Q v H' → CE outer P w H s Q u s' :=
    fun {σ' H' v u} J rv q => ⟨v, H', J.os, J.bare, J.base, J.hok, rv, q⟩
  cases fl with
  | ret u =>
    obtain ⟨v, σ', H', J, rv, q⟩ := hs
    exact fin J rv q
  | next =>
    obtain ⟨σ', H', J, q⟩ := hs
    exact fin (v := V.non) (u := Value.none) J rfl q
  | brk =>
    obtain ⟨_, _, _, q⟩ := hs
    exact False.elim q
  | cont =>
    obtain ⟨_, _, _, q⟩ := hs
    exact False.elim q
end L2

namespace L2
open PySem PySem.Spec PyProof.Rows
section
variable {X : Cx} {x : Str} {p pos : Pos} {e : Expr} {es : List Expr} {t : TA} {id T : String} {r : List V → Hp → VK → Prop}

def tCB (r : List V → Hp → VK → Prop) (t : TA) : TE := fun σ H Q => t σ H fun vs H1 => r vs H1 Q
/-- f(e, ..), f a built-in function -/
theorem pe_callB (hc : CallR X (.builtin id) r) (hg : Gl X x) (hm : X.mg x = none) (hv : bootBuiltins x = some (.builtin id)) (ha : PA X (e :: es) t) (hn : x ≠ "__name__" := by decide) (hdb : (x == ("__debug__" : Str)) = false := by decide)
    (he : starEach (e :: es) X.env = (false, eval e X.env) :: starEach es X.env := by rfl) (hpl : (backTo pos (starEach es X.env)).any (·.1) = false := by rfl) : PE X (.Call (.Name x p) (e :: es) [] pos) (tCB r t) := by
  intro pins s σ H Q I h
  refine wpAny_Call_Name_kw (ld_blt I hg hm hv ?_ hn hdb)
  exact PyProof.Rows.callWith_builtin1 (thn (ha pos pins s σ H _ I h) fun us s1 ⟨vs, H1, I1, r1, q1⟩ => hc pins s1 σ H1 vs us Q I1 r1 q1) he hpl
/-- T(e, ..), T a built-in type -/
theorem pe_callTy (hc : CallR X (.type T) r) (hg : Gl X x) (hm : X.mg x = none) (hv : bootBuiltins x = some (.type T)) (ha : PA X (e :: es) t) (hn : x ≠ "__name__" := by decide) (hdb : (x == ("__debug__" : Str)) = false := by decide)
    (he : starEach (e :: es) X.env = (false, eval e X.env) :: starEach es X.env := by rfl) (hpl : (backTo pos (starEach es X.env)).any (·.1) = false := by rfl) : PE X (.Call (.Name x p) (e :: es) [] pos) (tCB r t) := by
  intro pins s σ H Q I h
  refine wpAny_Call_Name_kw (ld_blt I hg hm hv ?_ hn hdb)
  exact PyProof.Rows.callWith_type1 (thn (ha pos pins s σ H _ I h) fun us s1 ⟨vs, H1, I1, r1, q1⟩ => hc pins s1 σ H1 vs us Q I1 r1 q1) he hpl
end
end L2

namespace HT
open PySem PyProof.Rows

section
open PySem.SeqAt
open PySem.AutoSeq1 (wpAny_loadPart')
open PySem.MeetsSeq PySem.MeetsSeq2 PySem.MeetsSeq3

end

section
variable {prog : Program} {w : World} {A : Around} {E : Value → Shared → Prop} {s : Shared}

/-! ### t[a:b], not the whole -/
end
end HT

namespace L2
open PySem PySem.Spec PyProof.Rows

/-! ### the parts of a slice -/
abbrev TO := St → Hp → (Option Int → Hp → Prop) → Prop
/-- a slice's part (left out, or an int) -/
def PO (X : Cx) (e : Option Expr) (t : TO) : Prop :=
  ∀ (pins : List (Addr × Obj)) (s : Shared) (σ : St) (H : Hp) (Q : Option Int → Hp → Prop), Inv X pins σ H s → t σ H Q →
    wpAny (model X.prog X.w) X.A (evalPart e X.env) (fun u s' => ∃ o H', Inv X pins σ H' s' ∧ IsPart u o ∧ Q o H') X.xe s
def tNoPart : TO := fun _ H Q => Q none H
def tPart (t : TE) : TO := fun σ H Q => t σ H fun x H1 => ∃ i, x = .int i ∧ Q (some i) H1

section
variable {X : Cx} {e : Expr} {te : TE} {lo hi : Option Expr} {tl th : TO} {pos p2 : Pos}

theorem po_none : PO X none tNoPart := by
  intro pins s σ H Q I h
  rw [evalPart_none]
  exact wpAny_pure ⟨none, H, I, .none, h⟩
theorem po_some (h : PE X e te) : PO X (some e) (tPart te) := by
  intro pins s σ H Q I hw
  rw [evalPart_some]
  refine thn (h pins s σ H _ I hw) fun u s1 ⟨x, H1, I1, r1, q1⟩ => ?_
  obtain ⟨i, rfl, q⟩ := q1
  obtain ⟨t, rfl⟩ := r1
  exact ⟨some i, H1, I1, .int i t, q⟩

/-- what a slice of a value is, by values: the slice object stands at sl -/
def SlR (X : Cx) (r : V → Option Int → Option Int → Hp → VK → Prop) : Prop :=
  ∀ (pins : List (Addr × Obj)) (s : Shared) (σ : St) (H : Hp) (x : V) (v vl vu : Value) (lo hi : Option Int) (sl : Addr) (Q : VK), Inv X pins σ H s → RelV x v → s.heap.IsSliceOf sl vl vu .none → IsPart vl lo → IsPart vu hi → r x lo hi H Q →
    ∃ T id, typeLookup (.type T) "__getitem__" = pure (some (.builtin id)) ∧ s.TypeIs v T ∧ wpAny (model X.prog X.w) X.A (getItem v (.ref sl)) (EP X pins σ Q) X.xe s
def tSl (r : V → Option Int → Option Int → Hp → VK → Prop) (te : TE) (tl th : TO) : TE := fun σ H Q => te σ H fun x H1 => tl σ H1 fun l H2 => th σ H2 fun u H3 => r x l u H3 Q
/-- a[lo:hi], any a -/
theorem pe_slice {r : V → Option Int → Option Int → Hp → VK → Prop} (hr : SlR X r) (he : PE X e te) (hl : PO X lo tl) (hu : PO X hi th) : PE X (.Subscript e (.Slice lo hi none p2) pos) (tSl r te tl th) := by
  intro pins s σ H Q I h
  refine Subscript_ (thn (he pins s σ H _ I h) fun v s1 ⟨x, H1, I1, r1, q1⟩ => ?_)
  refine wpAny_Slice (thn (hl pins s1 σ H1 _ I1 q1) fun vl s2 ⟨l, H2, I2, pl, q2⟩ => thn (hu pins s2 σ H2 _ I2 q2) fun vu s3 ⟨u, H3, I3, pu, q3⟩ => ?_)
  rw [evalPart_none]
  refine wpAny_pure ?_
  have I4 : Inv X pins σ H3 { s3 with heap := s3.heap.push { cls := .type "slice", data := .fields #[vl, vu, .none] } } := I3.kept (t' := s3.toks) fun b ob q => Heap.get?_push_of_some _ q
  obtain ⟨T, id, hT, ht, hg⟩ := hr pins { s3 with heap := s3.heap.push { cls := .type "slice", data := .fields #[vl, vu, .none] } } σ H3 x v vl vu l u s3.heap.objs.size Q I4 r1 (Heap.IsSliceOf.new ..) pl pu q3
  show wpAny (model X.prog X.w) X.A (subscriptTail e (.Slice lo hi none p2) v (.ref s3.heap.objs.size)) (EP X pins σ Q) X.xe { s3 with heap := s3.heap.push { cls := .type "slice", data := .fields #[vl, vu, .none] } }
  exact tail_any (ops := [.ref s3.heap.objs.size, v]) ht hT hg (by with_unfolding_all rfl)

/-! ### t < u, t + u -/
end
end L2

namespace L2
open PySem PySem.Spec PyProof.Rows

/-! ### places -/
/-- the place that an index of any sign means -/
def ixN (n : Nat) (i : Int) : Option Nat := if 0 ≤ i then (if i < n then some i.toNat else none) else if -(n : Int) ≤ i then some (i + n).toNat else none
def atI {α : Type} (xs : List α) (i : Int) : Option α := (ixN xs.length i).bind fun j => xs[j]?
theorem ixN_seq {n : Nat} {i : Int} {j : Nat} (h : ixN n i = some j) : seqIndex? i n = some j ∧ j < n ∧ -(n : Int) ≤ i ∧ i < n := by
  unfold ixN at h
  by_cases h0 : 0 ≤ i
  · rw [if_pos h0] at h
    by_cases h1 : i < n
    · rw [if_pos h1] at h
      have e : i.toNat = j := Option.some.inj h
      exact ⟨by rw [seqIndex_of h0 h1, e], by omega, by omega, h1⟩
    · rw [if_neg h1] at h; cases h
  · rw [if_neg h0] at h
    by_cases h1 : -(n : Int) ≤ i
    · rw [if_pos h1] at h
      have e : (i + n).toNat = j := Option.some.inj h
      exact ⟨by rw [seqIndex_neg (by omega) h1, e], by omega, h1, by omega⟩
    · rw [if_neg h1] at h; cases h
theorem atI_get {α : Type} {xs : List α} {i : Int} {v : α} (h : atI xs i = some v) : ∃ j, seqIndex? i xs.length = some j ∧ xs[j]? = some v ∧ j < xs.length ∧ -(xs.length : Int) ≤ i ∧ i < xs.length := by
  unfold atI at h
  cases e : ixN xs.length i with
  | none => rw [e] at h; cases h
  | some j =>
    rw [e] at h
    obtain ⟨h1, h2, h3, h4⟩ := ixN_seq e
    exact ⟨j, h1, h, h2, h3, h4⟩
theorem atI_nat {α : Type} {xs : List α} {j : Nat} {v : α} (h : xs[j]? = some v) : atI xs (j : Int) = some v := by
  have hj : j < xs.length := (List.getElem?_eq_some_iff.mp h).1
  have e : ixN xs.length (j : Int) = some j := by
    unfold ixN
    rw [if_pos (by omega), if_pos (by omega)]; simp
  unfold atI; rw [e]; exact h
/-! ### what may be subscripted -/
/-- what stands as an index of a plain subscript -/
def PlainIx (b : Expr) : Prop := ∀ o i, subscripted b false o i = operate [o, i] (getItem o i)
/-- a subscript by values -/
def IxR (X : Cx) (r : R2) : Prop :=
  ∀ (value slice : Expr) (pins : List (Addr × Obj)) (s : Shared) (σ : St) (H : Hp) (x y : V) (v u : Value) (Q : VK), Inv X pins σ H s → RelV x v → RelV y u → r x y H Q →
    subscripted slice false v u = operate [v, u] (getItem v u) → wpAny (model X.prog X.w) X.A (subscriptTail value slice v u) (EP X pins σ Q) X.xe s
/-- a call of a builtin's method by values: the receiver, the arguments -/
def MtR (X : Cx) (id : String) (r : V → List V → Hp → VK → Prop) : Prop :=
  ∀ (pins : List (Addr × Obj)) (s : Shared) (σ : St) (H : Hp) (x : V) (xs : List V) (v : Value) (us : List Value) (Q : VK), Inv X pins σ H s → RelV x v → Vals xs us → r x xs H Q →
    wpAny (model X.prog X.w) X.A (call (.builtin id) (v :: us)) (EP X pins σ Q) X.xe s
section
variable {X : Cx} {a b : Expr} {ta tb : TE} {pos : Pos}
/-- a[b] -/
theorem pe_ix {r : R2} (hr : IxR X r) (ha : PE X a ta) (hb : PE X b tb) (hs : PlainIx b) : PE X (.Subscript a b pos) (tOp r ta tb) := by
  intro pins s σ H Q I h
  exact Subscript_ (binT ha hb I h fun v u s2 x y H2 I2 rx ry q => hr a b pins s2 σ H2 x y v u Q I2 rx ry q (hs _ _))

def rIxL (K : PySem.W.Frag) : R2 := fun x y H Q => ∃ p xs i v, x = .ref p ∧ y = .int i ∧ SqL K H p xs ∧ atI xs i = some v ∧ Q v H
def rIxT (K : PySem.W.Frag) : R2 := fun x y H Q => ∃ p xs i v, x = .ref p ∧ y = .int i ∧ SqT K H p xs ∧ atI xs i = some v ∧ Q v H
def rIxS : R2 := fun x y H Q => ∃ z i c, x = .str z ∧ y = .int i ∧ z.length ≤ sizeLine ∧ atI z.cps.toList i = some c ∧ Q (.str ⟨#[c]⟩) H
theorem ix_list : IxR X (rIxL X.K) := by
  intro value slice pins s σ H x y v u Q I rx ry h hs
  obtain ⟨p, xs, i, z, rfl, rfl, hq, he, q⟩ := h
  cases rx
  obtain ⟨t, rfl⟩ := ry
  obtain ⟨its, r, pl, hz⟩ := I.list hq
  obtain ⟨j, h1, h2, h3, h4, h5⟩ := atI_get he
  obtain ⟨w, ew, rw'⟩ := r.get h2
  have hl := r.length
  have hn := line63
  have fin : EP X pins σ Q w s := ⟨z, H, I, rw', q⟩
  by_cases h0 : 0 ≤ i
  · have hj : i.toNat = j := by
      rw [seqIndex_of h0 h5] at h1
      exact Option.some.inj h1
    exact item_listR pl.isList h0 (by omega) (by rw [hj]; simpa using ew) fin hs
  · have hj : (i + (its.toArray.size : Int)).toNat = j := by
      rw [seqIndex_neg (by omega) h4] at h1
      rw [List.size_toArray, ← hl]
      exact Option.some.inj h1
    exact subscriptTail_builtinR (x := w) pl.isList.typeIs slot_list_getitem.lookup
      (wpAny_getItem_list_neg (Q := fun r s' => r = w ∧ EP X pins σ Q r s') pl.isList (by omega) (by rw [List.size_toArray] <;> omega) (by omega) (by rw [hj]; simpa using ew) ⟨rfl, fin⟩) hs
theorem ix_tup : IxR X (rIxT X.K) := by
  intro value slice pins s σ H x y v u Q I rx ry h hs
  obtain ⟨p, xs, i, z, rfl, rfl, hq, he, q⟩ := h
  cases rx
  obtain ⟨t, rfl⟩ := ry
  obtain ⟨its, r, pl, hz⟩ := I.tuple hq
  obtain ⟨j, h1, h2, h3, h4, h5⟩ := atI_get he
  obtain ⟨w, ew, rw'⟩ := r.get h2
  have hl := r.length
  have hn := line63
  have fin : EP X pins σ Q w s := ⟨z, H, I, rw', q⟩
  exact subscriptTail_builtinR (x := w) pl.typeIs slot_tuple_getitem.lookup
    (getItem_tuple (j := j) (Q := fun r s' => r = w ∧ EP X pins σ Q r s') pl (by omega) (by omega) (by rw [List.size_toArray, ← hl]; exact h1) (by simpa using ew) ⟨rfl, fin⟩) hs
theorem ix_str : IxR X rIxS := by
  intro value slice pins s σ H x y v u Q I rx ry h hs
  obtain ⟨z, i, c, rfl, rfl, hz, he, q⟩ := h
  obtain ⟨t, rfl⟩ := rx
  obtain ⟨t', rfl⟩ := ry
  obtain ⟨j, h1, h2, h3, h4, h5⟩ := atI_get he
  have hl : z.cps.toList.length = z.length := by simp [Str.length]
  rw [hl] at h1 h4 h5
  have hn := line63
  exact tail_any (typeIs_str s z t) slot_str_getitem.lookup (getItem_str (c := c) (by
    have e1 : decide (i < -(2 ^ 63 : Int)) = false := decide_eq_false (by omega)
    have e2 : decide (i ≥ 2 ^ 63) = false := decide_eq_false (by omega)
    rw [e1, e2, Bool.or_false]) (by rw [h1]; simpa using h2) ⟨.str ⟨#[c]⟩, H, I.tok _, ⟨_, rfl⟩, q⟩) hs
/-! ### xs[i] = v, any sign -/
/-- the list's object behind a store -/
theorem mapSeq_set (its : List Value) (n j : Nat) (u : Value) : Obj.mapSeq (·.setIfInBounds j u) { cls := .type "list", data := .seq its.toArray n } = { cls := .type "list", data := .seq (its.set j u).toArray n } := by
  simp [Obj.mapSeq]
theorem Inv.lst {pins : List (Addr × Obj)} {σ : St} {H : Hp} {s : Shared} {p : Addr} {xs : List V} (I : Inv X pins σ H s) (h : H p = some (.lst xs)) :
    ∃ (its : List Value) (n : Nat), Vals xs its ∧ s.heap.get? p = some { cls := .type "list", data := .seq its.toArray n } ∧ xs.length ≤ sizeLine := by
  obtain ⟨z, its, n, r, e⟩ := I.hok p _ h
  exact ⟨its, n, r, e, z⟩
/-- the list at p is written by an update of its object -/
theorem Inv.lstUpd {pins : List (Addr × Obj)} {σ : St} {H : Hp} {s : Shared} {p : Addr} {xs ys : List V} {its its' : List Value} {n n' : Nat} {f : Obj → Obj} (I : Inv X pins σ H s) (h : H p = some (.lst xs))
    (ho : s.heap.get? p = some { cls := .type "list", data := .seq its.toArray n }) (hf : f { cls := .type "list", data := .seq its.toArray n } = { cls := .type "list", data := .seq its'.toArray n' }) (r : Vals ys its') (hz : ys.length ≤ sizeLine) (t : Nat) :
    Inv X pins σ (upd H p (.lst ys)) { s with heap := s.heap.update p f, toks := t } := by
  have e : (s.heap.update p f).get? p = some { cls := .type "list", data := .seq its'.toArray n' } := by
    rw [Heap.get?_update_self f ho (by rw [hf] <;> rfl), hf]
  refine I.write (x := p) (e := p) (by rw [h]; trivial) (.inl rfl) (fun b u hb q => (Heap.get?_update_other _ _ (Ne.symm hb)).trans q) ⟨_, e⟩ ?_
  exact ⟨hz, its', n', r, e⟩
def rSetL : V → V → V → Hp → (Hp → Prop) → Prop := fun o i v H Q => ∃ p xs k j, o = .ref p ∧ i = .int k ∧ H p = some (.lst xs) ∧ ixN xs.length k = some j ∧ Q (upd H p (.lst (xs.set j v)))
theorem set_list : PSet X rSetL := by
  intro pins s σ H o i v ov iv u Q I ro ri rv h
  obtain ⟨p, xs, k, j, rfl, rfl, hp, hj, q⟩ := h
  cases ro
  obtain ⟨t, rfl⟩ := ri
  obtain ⟨its, n, r, ho, hz⟩ := I.lst hp
  obtain ⟨h1, h2, h3, h4⟩ := ixN_seq hj
  have hl := r.length
  have hn := line63
  have I' : Inv X pins σ (upd H p (.lst (xs.set j v))) { s with heap := s.heap.update p (Obj.mapSeq (·.setIfInBounds j u)) } :=
    I.lstUpd hp ho (mapSeq_set its n j u) (r.set rv j) (by rw [List.length_set]; exact hz) s.toks
  by_cases h0 : 0 ≤ k
  · have hk : k.toNat = j := by
      rw [seqIndex_of h0 h4] at h1
      exact Option.some.inj h1
    exact PySem.W.ki_setAt ho h0 (by omega) (by rw [List.size_toArray, ← hl]; exact h4) (by rw [hk]; exact ⟨_, I', q⟩)
  · have hk : (k + (its.toArray.size : Int)).toNat = j := by
      rw [seqIndex_neg (by omega) h3] at h1
      rw [List.size_toArray, ← hl]
      exact Option.some.inj h1
    exact PySem.W.ki_setBack ho (by omega) (by rw [List.size_toArray, ← hl]; exact h3) (by omega) (by rw [hk]; exact ⟨_, I', q⟩)

/-! ### slices -/
/-! ### in, not in: flat items -/
theorem op_notIn_str : OpR X (compareOp .NotIn) (fun x y H Q => ∃ i j, x = .str i ∧ y = .str j ∧ Q (.bl (!(!(Builtin.Str.occurrences j i 0 j.length 1).isEmpty))) H) := by
  intro pins s σ H x y v u Q I rx ry h
  obtain ⟨i, j, rfl, rfl, q⟩ := h
  obtain ⟨t, rfl⟩ := rx
  obtain ⟨t', rfl⟩ := ry
  exact notIn_str ⟨.bl _, H, I, rfl, q⟩

/-! ### len, list(x), tuple(x) of any list or tuple that is read -/
theorem call_len_seq : CallR X (.builtin "len") (fun xs H Q => ∃ p ys, xs = [.ref p] ∧ (SqL X.K H p ys ∨ SqT X.K H p ys) ∧ Q (.int ys.length) H) := by
  intro pins s σ H xs us Q I r h
  obtain ⟨p, ys, rfl, hq, q⟩ := h
  obtain ⟨u, rfl, rx⟩ := vals1 r
  cases rx
  have hn := line63
  rcases hq with hq | hq
  · obtain ⟨its, r', pl, hz⟩ := I.list hq
    have hlen := r'.length
    exact Calls.call_len_list pl.isList (by simp only [List.size_toArray] <;> omega) ⟨.int ys.length, H, I.tok _, ⟨s.toks + 1, by rw [List.size_toArray, hlen]⟩, q⟩
  · obtain ⟨its, r', pl, hz⟩ := I.tuple hq
    have hlen := r'.length
    exact len_tuple pl (by simp only [List.size_toArray] <;> omega) ⟨.int ys.length, H, I.tok _, ⟨s.toks + 1, by rw [List.size_toArray, hlen]⟩, q⟩
theorem call_len_str : CallR X (.builtin "len") (fun xs H Q => ∃ z, xs = [.str z] ∧ z.length ≤ sizeLine ∧ Q (.int z.length) H) := by
  intro pins s σ H xs us Q I r h
  obtain ⟨z, rfl, hz, q⟩ := h
  obtain ⟨u, rfl, t, rfl⟩ := vals1 r
  have hn := line63
  exact len_str (by omega) ⟨.int z.length, H, I.tok _, ⟨_, rfl⟩, q⟩
/-! ### the call of a builtin's method: o.m(..) -/
/-- the value is of that builtin type -/
def tyV (K : PySem.W.Frag) (T : String) (x : V) (H : Hp) : Prop := match x with
  | .str _ => T = "str"
  | .int _ => T = "int"
  | .ref p => (T = "list" ∧ ∃ xs, SqL K H p xs) ∨ (T = "tuple" ∧ ∃ o, K.lookup p = some o ∧ o.cls = .type "tuple" ∧ o.dict = none) ∨
      (T = "dict" ∧ ((∃ kvs, H p = some (.dK kvs)) ∨ ∃ kvs, H p = some (.dT kvs))) ∨ (T = "set" ∧ ∃ S n, H p = some (.set S n))
  | _ => False
theorem tyV_is {pins : List (Addr × Obj)} {σ : St} {H : Hp} {s : Shared} {T : String} {x : V} {v : Value} (I : Inv X pins σ H s) (r : RelV x v) (ty : tyV X.K T x H) :
    s.TypeIs v T ∧ ∀ a, v = .ref a → ∃ ob, s.heap.get? a = some ob ∧ ob.dict = none := by
  cases x with
  | str z =>
    obtain ⟨t, rfl⟩ := r
    cases (show T = "str" from ty)
    exact ⟨typeIs_str s z t, fun _ e => nomatch e⟩
  | int i =>
    obtain ⟨t, rfl⟩ := r
    cases (show T = "int" from ty)
    exact ⟨typeIs_int s i t, fun _ e => nomatch e⟩
  | ref p =>
    cases r
    rcases ty with ⟨rfl, xs, hq⟩ | ⟨rfl, o, hk, hc, hd⟩ | ⟨rfl, hk⟩ | ⟨rfl, S, n, hk⟩
    · obtain ⟨its, _, pl, _⟩ := I.list hq
      refine ⟨pl.isList.typeIs, fun a e => ?_⟩
      cases e
      obtain ⟨o, n, e, c, hd, _⟩ := pl
      exact ⟨o, e, hd⟩
    · refine ⟨⟨o, I.kIn p o hk, hc⟩, fun a e => ?_⟩
      cases e
      exact ⟨o, I.kIn _ o hk, hd⟩
    · have z : ∃ o, s.heap.get? p = some o ∧ o.ExactDict := by
        rcases hk with ⟨kvs, hk⟩ | ⟨kvs, hk⟩
        · obtain ⟨_, _, _, _, o, _, _, e, ex, _⟩ := I.hok p _ hk
          exact ⟨o, e, ex⟩
        · obtain ⟨_, _, _, _, o, _, _, e, ex, _⟩ := I.hok p _ hk
          exact ⟨o, e, ex⟩
      obtain ⟨o, e, ex⟩ := z
      refine ⟨⟨o, e, ex.1⟩, fun a e2 => ?_⟩
      cases e2
      exact ⟨o, e, ex.2.1⟩
    · obtain ⟨o, _, _, _, e, ex, _⟩ := I.hok p _ hk
      refine ⟨⟨o, e, ex.1⟩, fun a e2 => ?_⟩
      cases e2
      exact ⟨o, e, ex.2.1⟩
  | _ => exact False.elim ty
def tBM (K : PySem.W.Frag) (T : String) (r : V → List V → Hp → VK → Prop) (to : TE) (t : TA) : TE := fun σ H Q => to σ H fun x H1 => tyV K T x H1 ∧ t σ H1 fun xs H2 => r x xs H2 Q
variable {o e : Expr} {es : List Expr} {to : TE} {t : TA} {name : Str} {apos cpos : Pos} {T id : String} {r : V → List V → Hp → VK → Prop}
theorem pe_bm (pa : PlainAttrs T) (slot : Slot T name id) (hty : typeOf (.builtin id) = pure (.type "method_descriptor")) (hm : MtR X id r) (ho : PE X o to) (ha : PA X (e :: es) t)
    (hbase : attributeBase o name X.env (eval o X.env) = eval o X.env := by rfl)
    (hfew : ((backTo cpos (starEach (e :: es) X.env)).all (fun x => !x.1) && (backToKw cpos (keywordEach [] X.env)).all (fun x => x.1.isSome)
      && decide ((e :: es).length + ([] : List Keyword).length + (if ([] : List Keyword).isEmpty then 0 else 1) < 30)) = true := by rfl)
    (hline : (apos.endLine == cpos.line) = true := by rfl) (hs : starEach (e :: es) X.env = (false, eval e X.env) :: starEach es X.env := by rfl) (hplain : (backTo cpos (starEach es X.env)).any (·.1) = false := by rfl) :
    PE X (.Call (.Attribute o name apos) (e :: es) [] cpos) (tBM X.K T r to t) := by
  intro pins s σ H Q I h
  refine wpAny_Call_method_late hbase hfew hline rfl (thn (ho pins s σ H _ I h) fun v s1 ⟨x, H1, I1, r1, ty, q1⟩ => ?_)
  obtain ⟨h1, h2⟩ := tyV_is I1 r1 ty
  refine ⟨T, id, pa, slot, hty, h1, h2, ?_⟩
  have hA := ha cpos pins s1 σ H1 _ I1 q1
  rw [hs] at hA ⊢
  refine Calls.callWith_builtin (by show (false || (backTo cpos (starEach es X.env)).any (·.1)) = false; rw [hplain] <;> rfl) (Calls.evalArgs_plain ?_)
  exact thn hA fun us s2 ⟨vs, H2, I2, r2, q2⟩ => hm pins s2 σ H2 x vs v us Q I2 r1 r2 q2
/- xs.append(e), list.index on a module's tuple .. are MtR facts of 06m -/
end
end L2

namespace L2
open PySem PySem.Spec PyProof.Rows

def MtM (X : Cx) (id : String) (r : V → List V → Hp → VK → Prop) : Prop :=
  ∀ (pins : List (Addr × Obj)) (s : Shared) (σ : St) (H : Hp) (x : V) (xs : List V) (v : Value) (us : List Value) (Q : VK), Inv X pins σ H s → RelV x v → Vals xs us → r x xs H Q →
    wpAny (model X.prog X.w) X.A (call (.builtin id) (v :: us)) (EP X pins σ Q) X.xe s

/-! ### lists of values -/
theorem Vals.one : ∀ {x : V} {us : List Value}, Vals [x] us → ∃ u, us = [u] ∧ RelV x u
  | _, _, .cons r .nil => ⟨_, rfl, r⟩
section
variable {X : Cx} {pins : List (Addr × Obj)} {σ : St} {H : Hp} {s : Shared} {l b : Addr} {xs ys zs : List V}

/-! ### the two steps: a tracked list is rewritten, a new list is laid -/
theorem Inv.lset {its its' : List Value} {n : Nat} {f : Array Value → Array Value} {t' : Nat} (I : Inv X pins σ H s) (hH : H l = some (.lst xs))
    (e : s.heap.get? l = some { cls := .type "list", data := .seq its.toArray n }) (hf : f its.toArray = its'.toArray) (hv : Vals ys its') (hz : ys.length ≤ sizeLine) :
    Inv X pins σ (upd H l (.lst ys)) { s with heap := s.heap.update l (Obj.mapSeq f), toks := t' } := by
  have q := PySem.IsL.update e f
  rw [hf] at q
  refine I.write (x := l) (e := l) (by rw [hH]; exact trivial) (.inl rfl) (fun b' u hb hu => (Heap.get?_update_other s.heap (Obj.mapSeq f) (Ne.symm hb)).trans hu) ⟨_, q⟩ ?_
  exact ⟨hz, its', _, hv, q⟩
theorem Inv.lstM (I : Inv X pins σ H s) (hH : H l = some (.lst xs)) : xs.length ≤ sizeLine ∧ ∃ (its : List Value) (n : Nat), Vals xs its ∧ xs.length = its.length ∧ s.heap.get? l = some { cls := .type "list", data := .seq its.toArray n } := by
  obtain ⟨z, its, n, r, e⟩ := I.hok l _ hH
  exact ⟨z, its, n, r, r.length, e⟩

end

section
variable {X : Cx}

/-! ### methods -/
def rAppend : V → List V → Hp → VK → Prop := fun x vs H Q => ∃ l xs y, x = .ref l ∧ vs = [y] ∧ H l = some (.lst xs) ∧ xs.length < sizeLine ∧ Q .non (upd H l (.lst (xs ++ [y])))
theorem mt_append : MtM X "list.append" rAppend := by
  intro pins s σ H x vs v us Q I rx rv h
  obtain ⟨l, xs, y, rfl, rfl, hH, hz, q⟩ := h
  cases rx
  obtain ⟨u, rfl, ru⟩ := rv.one
  obtain ⟨z, its, n, r, hl, e⟩ := I.lstM hH
  refine call_meets F.slot_list_append ⟨_, e, rfl⟩ F.entry_list_append (F.args_list_append_2 _ _) (PySem.list_append l its.toArray n u (by rw [List.size_toArray]; omega)) ⟨e, ?_⟩
  refine ⟨.non, _, I.lset (its' := its ++ [u]) hH e (by simp) (r.append (.cons ru .nil)) ?_, rfl, q⟩
  rw [List.length_append, List.length_singleton]
  omega

/-! ### list + list, list += list, list * int -/
/-! ### del xs[i] -/
end

/-! ### xs[a:b] = ys -/
section
variable {prog : Program} {w : World} {A : Around} {E : Value → Shared → Prop} {s : Shared}
end

section
variable {X : Cx}
end
end L2

namespace Att
open PySem PySem.W PySem.Calls PyProof.Rows

/-! ### the script -/
theorem ints_of_wellAll {P : Params} {h : Heap} : ∀ (ns : List Int) (vs : List Value), WellAll P h vs (ns.map WData.int) → IntsAre vs ns := by
  intro ns
  induction ns with
  | nil =>
    intro vs w
    rw [List.map_nil] at w
    cases w
    exact .nil
  | cons n ns ih =>
    intro vs w
    rw [List.map_cons] at w
    cases w with
    | cons a b =>
      cases a
      exact .cons _ _ (ih _ b)

theorem script_of {l : OpenLaw} {n : Nat} (hn : l.most = some n) {P : Params} {h : Heap} {args : List WData} {vals : List Value}
    (hpre : l.row.toRowW.claim.pre args = true) (hwl : WellAll P h vals args) :
    ∃ a vs ns, vals = [Value.ref a] ∧ args = [WData.list (ns.map WData.int)] ∧ h.get? a = some { cls := .type "list", data := .seq vs.toArray } ∧ IntsAre vs ns ∧ ns.length ≤ n := by
  have hsh : WShape.hasAll [] args [.list .int] = true := (pre_splitW hpre).1
  have hc : l.pre.holds [] { args := args } = true := (pre_splitW hpre).2
  obtain ⟨d, r, rfl, h1, h2⟩ := hasAllW_cons hsh
  obtain rfl := hasAllW_nil h2
  obtain ⟨xs, rfl, h3⟩ := hasW_list h1
  obtain ⟨ns, rfl⟩ := items_int h3
  have hlen : ns.length ≤ n := by
    unfold OpenLaw.pre at hc
    have h4 : (WTm.not (.lt (.lit (.int (n : Int))) (.len (.arg 0)))).holds [] { args := [.list (ns.map .int)] } = true := by
      have h4 := (holds_andW hc).1
      rw [hn] at h4
      exact h4
    have h5 := condW_of h4 (w_not (w_lt w_lit (w_len_list (w_arg rfl))))
    rw [List.length_map] at h5
    refine Nat.le_of_not_lt fun q => ?_
    have q' : (n : Int) < ((ns.length : Nat) : Int) := by omega
    first
      | (rw [decide_eq_true q'] at h5; exact absurd h5 (by decide))
      | (simp at h5; omega)
  cases hwl with
  | cons w1 w2 =>
    cases w2
    cases w1 with
    | list ho hall => exact ⟨_, _, ns, rfl, rfl, ho, ints_of_wellAll ns _ hall, hlen⟩

theorem post_true (l : OpenLaw) (args : List WData) : l.row.toRowW.claim.post args (.bool true) args = true :=
  postW_of (r := l.row.toRowW) (X := (true == true))
    (show WShape.has [] (.bool true) .bool = true by first | rfl | decide | simp [WShape.has, WShape.arms, WShape.armsAll])
    (show (WTm.eq .res (.lit (.bool true))).value [] { args := args, res := some (.bool true), after := args } = some (.bool (true == true)) from w_eq_bool (w_res rfl) w_lit) rfl

/-! ### the attachment: holds_open's last premise (the goal 'hc' behind k_head) from a wpAny of the law's body -/
/-- the same from a codeAny of the CALL (for a layer whose function contracts speak of calls) -/
theorem attach_call {l : OpenLaw} {n : Nat} {q : Program} {loose : List Str} {XP : (Str → Option Value) → Heap → Prop} {YP : World → Heap → Prop} {d : DefRec}
    (hn : l.most = some n) (hdf : d.params.defaults = [])
    (call : ∀ (w : World) (s₀ s₁ : Shared) (mg mb : Str → Option Value) (fa : Addr) (o : Obj) (pm cd doc : Value) (a : Addr) (vs : List Value) (ns : List Int),
      Ground q loose [] XP w s₀ mg mb s₁.heap → YP w s₁.heap →
      s₁.heap.get? fa = some o → o.data = .func (docDef d.name d.params d.body d.scope pm cd doc) → s₁.heap.CodeRec cd d.name → mg d.name = some (.ref fa) →
      s₁.heap.get? a = some { cls := .type "list", data := .seq vs.toArray } → IntsAre vs ns → ns.length ≤ n → s₁.gens = #[] →
      codeAny (model l.prog w) callerA (.call (.ref fa) ⟨[.ref a], []⟩) (fun r s' => r = .ok (.ret (.bool true)) ∧ OldK s₁.heap s'.heap ∧ s'.os = s₁.os ∧ AllBare s'.gens) s₁) :
    WalkO q loose XP YP l.row.toRowW d [] (fun f vs => PySem.call f vs) := by
  intro w s₀ s₁ mg mb G Y fa o pm cd doc dV kV ho hd hcd hD hmg hg args vals as hpre hlay hrd hwl hlo
  obtain rfl : dV = .none := Dflts.none hD hdf
  obtain rfl : kV = .none := Dflts.noKw hD
  obtain ⟨a, vs, ns, rfl, rfl, hobj, hints, hlen⟩ := script_of hn hpre hwl
  refine enter_call (codeAny_mono (call w s₀ s₁ mg mb fa o pm cd doc a vs ns G Y ho (fd_plain hd) hcd hmg hobj hints hlen hg) fun r s' hq => ?_)
  obtain ⟨rfl, h2, h3, h4⟩ := hq
  exact ⟨.inl ⟨.bool true, .bool true, [], rfl, fun _ => rfl, .bool true, post_true l _, fun _ => ⟨List.Pairwise.nil, fun _ hm => (nomatch hm)⟩⟩, h2, h3, h4⟩

/-! ### rules over ANY heap (no ledger) from facts about the written part K: the library's own take a ledger (News) for what they write -/
section
variable {prog : Program} {w : World} {A : Around} {E : Value → Shared → Prop} {s : Shared} {K : Frag}

/-! the whole heap as the ledger: makes every rule that writes through a ledger a rule over any heap -/
def ledger (h : Heap) (L d : Addr) : List (Addr × Obj) := (List.range h.objs.size).filterMap fun a => if a = L ∨ a = d then none else (h.get? a).map fun o => (a, o)
end
end Att

namespace L2
open PySem PySem.Spec PyProof.Rows

theorem vals_ints : ∀ {vs : List Value} {ns : List Int}, IntsAre vs ns → Vals (ns.map V.int) vs
  | _, _, .nil => .nil
  | _, _, .cons n t h => .cons ⟨t, rfl⟩ (vals_ints h)

/-- nothing is tracked but the script, known to the object (or it is an object of the module) -/
def Only (H : Hp) : Prop := ∀ b, H b = none ∨ ∃ o xs, H b = some (.frz o (.lst xs))

/-- THE HEAD: the law's promise, at the heap behind the top. F, the promise of the law's def, may use that base is part of the heap (so K.In base, base.Ns mainGlobals mg stand in Mod) -/
theorem law_call {P : Program} {w : World} {K : PySem.W.Frag} {mg mb : Str → Option Value} {CX : CXT} {k : Nat} {fa a : Addr} {fd : FuncData} {x : Str} {sp : Sp} {s₁ : Shared} {vs : List Value} {ns : List Int}
    (KX : K.In s₁.heap) (hns : s₁.heap.Ns mainGlobals mg) (hb : s₁.heap.Ns builtinsNs mb) (hbb : ∀ x : Str, x ≠ "__name__" → mb x = bootBuiltins x) (hlim : s₁.heap.NoLimit) (hg : s₁.gens = #[])
    (ha : s₁.heap.get? a = some { cls := .type "list", data := .seq vs.toArray }) (hi : IntsAre vs ns) (hl : ns.length ≤ sizeLine) (hr : Room k callerA)
    (F : ∀ base : Heap, K.In base → base.Ns mainGlobals mg → FnOk P w K mg base CX k fa fd [x] sp) (hbind : ∀ (s : Shared) (u : Value), BindsTo s fd ⟨[u], []⟩ [(x, u)])
    (hsp : ∀ H : Hp, Only H → SqL K H a (ns.map V.int) → sp [.ref a] H (fun v _ => v = .bl true) fun _ _ _ => False)
    (hCX : ∀ H e s', CX [] H s₁ (fun _ _ _ => False) e s' → False) :
    codeAny (model P w) callerA (.call (.ref fa) ⟨[.ref a], []⟩) (fun r s' => r = .ok (.ret (.bool true)) ∧ OldK s₁.heap s'.heap ∧ s'.os = s₁.os ∧ AllBare s'.gens) s₁ := by
  have rv := vals_ints hi
  have lenV := hi.length
  -- from an abstract heap in which nothing but the script may be tracked
  have core : ∀ H : Hp, Only H → SqL K H a (ns.map V.int) → HOk P w H s₁.heap → (∀ b, H b ≠ none → b = a) → (H a ≠ none → K.lookup a = none) →
      codeAny (model P w) callerA (.call (.ref fa) ⟨[.ref a], []⟩) (fun r s' => r = .ok (.ret (.bool true)) ∧ OldK s₁.heap s'.heap ∧ s'.os = s₁.os ∧ AllBare s'.gens) s₁ := by
    intro H hO hS hok hA hK
    have base_of : ∀ {b : Addr} {o : Obj}, s₁.heap.get? b = some o → H b = none → (hidT s₁.heap H).get? b = some o := fun e n => hidT_get e n
    have noA : ∀ {b : Addr} {o : Obj} {es : Array DictEntry} {ep : Nat}, s₁.heap.get? b = some o → o.data = .dict es ep → H b = none := fun {b o es ep} e d => by
      cases q : H b with
      | none => rfl
      | some u =>
        have e' : b = a := hA b (by rw [q]; simp)
        subst e'
        rw [ha] at e; cases e
        have d' : Data.seq vs.toArray _ = Data.dict es ep := d
        cases d'
    have nsK : ∀ {b : Addr} {m : Str → Option Value}, s₁.heap.Ns b m → (hidT s₁.heap H).Ns b m := fun {b m} ⟨o, es, ep, e, d, r⟩ => ⟨o, es, ep, base_of e (noA e d), d, r⟩
    have hKb : K.In (hidT s₁.heap H) := fun b o e => base_of (KX b o e) (by
      cases q : H b with
      | none => rfl
      | some u =>
        have e' : b = a := hA b (by rw [q]; simp)
        subst e'
        rw [hK (by rw [q]; simp)] at e; cases e)
    have hM : Mod K mg (hidT s₁.heap H) := ⟨hKb, nsK hns, ⟨mb, nsK hb, hbb⟩, let ⟨mc, h1, h2⟩ := hlim; ⟨mc, nsK h1, h2⟩⟩
    have e0 : Env0 P w K mg (hidT s₁.heap H) callerA [] s₁ H := ⟨rfl, hM, fun b o e => of_hidT e, Nat.le_of_eq (hidT_size _ _), trivial, fun b hb => absurd (show b ∈ ([] : List Addr) from hb) (by simp), hok, .of_eq hg⟩
    refine codeAny_mono ((F _ hKb (nsK hns)).run callerA [] s₁ H ⟨[.ref a], []⟩ [.ref a] [.ref a] _ _ hr e0 (hbind s₁ (.ref a)) (.cons rfl .nil) (hsp H hO hS)) fun r s' h => ?_
    cases r with
    | error e => exact (hCX H e s' h).elim
    | ok fl =>
      cases fl with
      | next => exact False.elim h
      | brk => exact False.elim h
      | cont => exact False.elim h
      | ret u =>
        obtain ⟨v, H', os, bare, un, hok', r', q⟩ := h
        have q' : v = .bl true := q
        subst q'
        obtain rfl : u = Value.bool true := r'
        refine ⟨rfl, OldK.of_keep fun b o e => ?_, os, bare⟩
        cases q : H b with
        | none => exact un.keep b o e q (by intro z; exact absurd (show b ∈ ([] : List Addr) from z) (by simp)) (by simp)
        | some u =>
          rcases hO b with z | ⟨ob, xs, z⟩
          · rw [q] at z; cases z
          · have z2 := un.frzs b ob _ z
            obtain ⟨e1, _⟩ := hok b _ z
            obtain ⟨e2, _⟩ := hok' b _ z2
            rw [e] at e1; cases e1
            exact e2
  cases hk : K.lookup a with
  | some o =>
    -- the script is one of the module's own objects
    have e := KX a o hk
    rw [ha] at e
    cases e
    refine core (fun _ => none) (fun _ => .inl rfl) (.inr ⟨_, vs.toArray, _, hk, rfl, rfl, rfl, by rw [List.size_toArray, lenV]; exact hl, by simpa using rv⟩) (fun b u z => by have z' : (none : Option HO) = some u := z; cases z') (fun b z => absurd rfl z) fun z => absurd rfl z
  | none =>
    refine core (fun b => if b = a then some (.frz { cls := .type "list", data := .seq vs.toArray } (.lst (ns.map V.int))) else none) (fun b => ?_) (.inl (.inr ⟨{ cls := .type "list", data := .seq vs.toArray }, if_pos rfl⟩)) (fun b u z => ?_) (fun b z => ?_) fun _ => hk
    · by_cases hb : b = a
      · exact .inr ⟨_, _, if_pos hb⟩
      · exact .inl (if_neg hb)
    · by_cases hb : b = a
      · have z' := (if_pos hb).symm.trans z
        cases z'
        subst hb
        exact ⟨ha, by rw [List.length_map]; exact hl, vs, _, rv, ha⟩
      · have z' := (if_neg hb).symm.trans z
        cases z'
    · by_cases hb : b = a
      · exact hb
      · exact absurd (if_neg hb) z
end L2

namespace L2
open PySem PySem.Spec PyProof.Rows

/-- the goal that k_head leaves (case hc), from the law's promise. F gives the function object fd (K's own) once, then the promise over every base -/
theorem walk_of {l : PySem.W.OpenLaw} {n k : Nat} {q : Program} {loose : List Str} {XP : (Str → Option Value) → Heap → Prop} {YP : World → Heap → Prop} {d : DefRec} {K : Params → PySem.W.Frag} {CX : World → CXT} {sp : World → Sp} {x : Str}
    (hn : l.most = some n) (hn2 : n ≤ sizeLine) (hdf : d.params.defaults = []) (hr : Room k callerA)
    (hY : ∀ (w : World) (h : Heap), YP w h → (K w.params).In h)
    (F : ∀ (w : World) (mg : Str → Option Value) (fa : Addr) (h : Heap), (K w.params).In h → h.Ns mainGlobals mg → mg d.name = some (.ref fa) →
      ∃ fd : FuncData, (∀ (s : Shared) (u : Value), BindsTo s fd ⟨[u], []⟩ [(x, u)]) ∧
        ∀ base : Heap, (K w.params).In base → base.Ns mainGlobals mg → FnOk l.prog w (K w.params) mg base (CX w) k fa fd [x] (sp w))
    (hsp : ∀ (w : World) (H : Hp) (a : Addr) (ns : List Int), ns.length ≤ n → Only H → SqL (K w.params) H a (ns.map V.int) → sp w [.ref a] H (fun v _ => v = .bl true) fun _ _ _ => False)
    (hCX : ∀ (w : World) (H : Hp) (s : Shared) (e : Value) (s' : Shared), CX w [] H s (fun _ _ _ => False) e s' → False) :
    PySem.W.WalkO q loose XP YP l.row.toRowW d [] (fun f vs => PySem.call f vs) := by
  refine Att.attach_call hn hdf fun w s₀ s₁ mg mb fa o pm cd doc a vs ns G Y ho hd hcd hmg hobj hints hlen hg => ?_
  have KX := hY w _ Y
  obtain ⟨fd, hb, hF⟩ := F w mg fa _ KX G.T.g hmg
  exact law_call KX G.T.g G.T.b G.T.builtins G.T.nolimit hg hobj hints (Nat.le_trans hlen hn2) hr hF hb (fun H hO hS => hsp w H a ns hlen hO hS) fun H e s' => hCX w H s₁ e s'
end L2

/-! SHORT WORDS over the layer: a def of the text, its body, what a loop and a test want. -/
namespace L2
open PySem PySem.Spec PyProof.Rows

/-! ### the text by places -/
def defArgs (s : Stmt) : Arguments := match s with
  | .FunctionDef _ a _ _ _ _ _ _ _ _ => a
  | _ => { posonlyargs := [], args := [], vararg := none, kwonlyargs := [], kw_defaults := [], kwarg := none, defaults := [] }
def defBody (s : Stmt) : List Stmt := match s with
  | .FunctionDef _ _ b _ _ _ _ _ _ _ => b
  | _ => []
def defScope (s : Stmt) : Scope := match s with
  | .FunctionDef _ _ _ _ _ _ sc _ _ _ => sc
  | _ => { kind := .function, names := [], isGenerator := false, isCoroutine := false }

/-! ### no exception leaves a def -/
abbrev CX0 : CXT := fun _ _ _ _ _ _ => False
abbrev E0 : XK := fun _ _ _ => False
theorem pass0 {X : Cx} : Passes CX0 X E0 := fun _ _ _ _ _ _ _ h => h.elim

/-! ### a def (or method) of the text as it stands behind the top -/
structure Fun (K : PySem.W.Frag) (x qual : Str) (st : Stmt) (f : Addr) (fd : FuncData) : Prop where
  ex : ∃ (oc : Value) (od : Option Addr) (kV doc pm : Value) (an : Option Addr) (cdv ct : Value) (osl : Array (Option Value)),
    fd = PySem.W.fnOf x qual (defArgs st) (defBody st) (defScope st) .none kV doc pm an cdv ct ∧ K.lookup f = some ⟨oc, od, .func fd, osl⟩ ∧ PySem.W.codeIn K cdv qual = true
  kp : PySem.W.keepIn K (.ref f) = true
section
variable {P : Program} {w : World} {K : PySem.W.Frag} {mg : Str → Option Value} {base : Heap}
/-- THE RULE for a def: its body as a term of rules, and the reading of that term -/
theorem Fun.ok {x qual : Str} {st : Stmt} {f : Addr} {fd : FuncData} {N ps : List Str} {k : Nat} {sp : Sp} (F : Fun K x qual st f fd) (S : FnScope N ps (defScope st)) (len : ∀ vs H Q E, sp vs H Q E → vs.length = ps.length)
    (hbody : ∀ (cdv : Value) (A : Around) (outer : List Env) (s : Shared) (H : Hp) (vs : List V) (Q : VK) (E : XK), Room k (A.deeper (envOfC qual (defScope st) s.heap.objs.size f cdv)) → sp vs H Q E →
      ∃ t, PSs (cxOf CX0 P w K mg base N qual (defScope st) f cdv A outer s H E).nox (defBody st) t ∧ t { nx := fun _ H' => Q .non H', rt := Q } (start N vs) H) : FnOk P w K mg base CX0 (k + 1) f fd ps sp := by
  obtain ⟨oc, od, kV, doc, pm, an, cdv, ct, osl, rfl, lk, hcd⟩ := F.ex
  refine fn_of lk hcd S len fun A outer s H vs Q E hr hsp => ?_
  obtain ⟨t, h, q⟩ := hbody cdv A outer s H vs Q E hr hsp
  exact ⟨t, h.nox, q⟩
/-- how its arguments bind (no defaults): h is «fun _ _ _ _ _ _ us hl => match us, hl with | [_, _], _ => rfl», one _ a parameter -/
theorem Fun.binds {x qual : Str} {st : Stmt} {f : Addr} {fd : FuncData} {ps : List Str} (F : Fun K x qual st f fd)
    (h : ∀ (kV doc pm : Value) (an : Option Addr) (cdv ct : Value) (us : List Value), us.length = ps.length → bindArgs (PySem.W.fnOf x qual (defArgs st) (defBody st) (defScope st) .none kV doc pm an cdv ct) ⟨us, []⟩ = pure (ps.zip us)) : Binds K fd ps [] := by
  obtain ⟨oc, od, kV, doc, pm, an, cdv, ct, osl, rfl, lk, hcd⟩ := F.ex
  exact .all (h kV doc pm an cdv ct)
theorem fun_mk {x qual : Str} {st : Stmt} {f : Addr} {oc : Value} {od an : Option Addr} {osl : Array (Option Value)} {kV doc pm cdv ct : Value} (l : K.lookup f = some ⟨oc, od, .func (PySem.W.fnOf x qual (defArgs st) (defBody st) (defScope st) .none kV doc pm an cdv ct), osl⟩)
    (c : PySem.W.codeIn K cdv qual = true) (k : PySem.W.keepIn K (.ref f) = true) : Fun K x qual st f (PySem.W.fnOf x qual (defArgs st) (defBody st) (defScope st) .none kV doc pm an cdv ct) := ⟨⟨oc, od, kV, doc, pm, an, cdv, ct, osl, rfl, l, c⟩, k⟩
end
theorem small1000 {n : Nat} (h : n ≤ 1000) : n < sizeLine := Nat.lt_of_le_of_lt h (by decide)

/-! ### expressions in short: the name that stands in the i-th slot -/
section
variable {X : Cx}
theorem pv (i : Nat) {x : Str} {pos : Pos} (hN : X.N[i]? = some x := by rfl) (hv : Vis X.env.scope x := by first | exact Or.inl rfl | exact Or.inr (Or.inl rfl) | exact Or.inr (Or.inr rfl)) (hd : (x == ("__debug__" : Str)) = false := by decide)
    (hcd : (x == ("__classdict__" : Str)) = false := by decide) : PE X (.Name x pos) (tVar i) := pe_var hN hv hd hcd
end

/-! ### tests -/
theorem iteF {A B : Prop} (h : B) : if false = true then A else B := by
  rw [if_neg Bool.false_ne_true]
  exact h
theorem iteT {A B : Prop} (h : A) : if true = true then A else B := by
  rw [if_pos rfl]
  exact h
/-! ### heaps -/
/-- all that was tracked is as it was -/
def Same (H H' : Hp) : Prop := ∀ b o, H b = some o → H' b = some o
theorem Same.refl (H : Hp) : Same H H := fun _ _ h => h
theorem Same.trans {H H1 H2 : Hp} (a : Same H H1) (b : Same H1 H2) : Same H H2 := fun c o h => b c o (a c o h)
theorem Same.free {H H' : Hp} (e : Same H H') {l : Addr} (h : H' l = Option.none) : H l = Option.none := by
  cases q : H l with
  | none => rfl
  | some o =>
    rw [e l o q] at h
    cases h
theorem Same.seq {K : PySem.W.Frag} {H H' : Hp} {a : Addr} {xs : List V} (e : Same H H') (h : SqL K H a xs) : SqL K H' a xs := by
  rcases h with (h | ⟨o, h⟩) | h
  · exact .inl (.inl (e _ _ h))
  · exact .inl (.inr ⟨o, e _ _ h⟩)
  · exact .inr h

end L2

set_option maxHeartbeats 4000000
/-! ### my own rules over the layer -/
namespace L2
open PySem PySem.Spec PyProof.Rows
section
variable {X : Cx} {pos : Pos} {a b c d : Expr} {ta tb tc td : TE}
end
/-! ### what isinstance tells of built-in types -/
section
open PySem.W
variable {K : Frag}
end
/-! ### tests -/
theorem iteD {c A B : Prop} [Decidable c] (h1 : c → A) (h2 : ¬ c → B) : if decide c = true then A else B := by
  by_cases h : c
  · rw [if_pos (decide_eq_true h)]; exact h1 h
  · rw [if_neg (by rw [decide_eq_false h]; decide)]; exact h2 h
theorem iteDn {c A B : Prop} [Decidable c] (h1 : ¬ c → A) (h2 : c → B) : if (!decide c) = true then A else B := by
  by_cases h : c
  · rw [if_neg (by rw [decide_eq_true h]; decide)]; exact h2 h
  · rw [if_pos (by rw [decide_eq_false h]; rfl)]; exact h1 h
theorem iteE {A B : Prop} {i j : Int} (h1 : i = j → A) (h2 : i ≠ j → B) : if decide (V.int i = V.int j) = true then A else B := iteD (fun h => h1 (V.int.inj h)) fun h => h2 fun e => h (congrArg V.int e)
theorem iteNE {A B : Prop} {i j : Int} (h1 : i ≠ j → A) (h2 : i = j → B) : if (!decide (V.int i = V.int j)) = true then A else B := iteDn (fun h => h1 fun e => h (congrArg V.int e)) fun h => h2 (V.int.inj h)
/-! ### heaps -/
theorem Same.put {H H1 : Hp} {l : Addr} {o : HO} (s : Same H H1) (n : H l = none) : Same H (upd H1 l o) := fun b u e => by
  rw [upd_ne (ne_of_none e n)]; exact s b u e
theorem Same.new {H : Hp} {l : Addr} {o : HO} (n : H l = none) : Same H (upd H l o) := (Same.refl H).put n
end L2
/-! ### a list comprehension of one clause -/
namespace L2
open PySem PySem.Spec PyProof.Rows
/-- the loop of a comprehension, a turn at a time, whatever its target is -/
theorem comp_loop {prog : Program} {w : World} {A : Around} {R : Result → Shared → Prop} {s : Shared} {elt target iter : Expr} {ifs : List Expr} {scope : Scope} {pos : Pos} {it acc : Value} {env : Env} (I : Nat → Shared → Prop)
    (turn : ∀ n s, I n s → wpAny (model prog w) A (pyNext it) (fun r s₁ => match r with
      | none => R (.ok .next) s₁
      | some v => wpAny (model prog w) A (letOwnedTupleGo target it v) (fun _ s₁' => wpAny (model prog w) A (assign target env v) (fun _ s₂ =>
          wpAny (model prog w) A (forIn ifs true fun c r => if r = true then do let ok ← isTrue c env (eval c env); pure (ForInStep.yield ok) else pure (ForInStep.yield r)) (fun ok s₃ =>
            if ok = true then wpAny (model prog w) A (eval elt env) (fun x s₄ =>
              wpAny (model prog w) A (call (.builtin "list.append") [acc, x]) (fun _ s₅ => ∃ m, m < n ∧ I m s₅) (notedBy (model prog w) A env fun e s' => R (.error e) s') s₄) (notedBy (model prog w) A env fun e s' => R (.error e) s') s₃
            else ∃ m, m < n ∧ I m s₃) (notedBy (model prog w) A env fun e s' => R (.error e) s') s₂) (notedBy (model prog w) A env fun e s' => R (.error e) s') s₁') (notedBy (model prog w) A env fun e s' => R (.error e) s') s₁) (notedBy (model prog w) A env fun e s' => R (.error e) s') s)
    (n : Nat) (h : I n s) :
    codeAny (model prog w) A (.compLoop (.ListComp elt [⟨target, iter, ifs, 0⟩] scope pos) 0 it acc env) R s := by
  refine codeAny_loop rfl I (fun n s hI => ?_) n h
  show wpAny _ A ((compTurn (.ListComp elt [⟨target, iter, ifs, 0⟩] scope pos) 0 it acc env).onRaise (fun x => do noteFrame x env; theTreesLotGoes x)) _ _ s
  refine wpAny_noted ?_
  rw [compTurn_list]
  refine wpAny_bind (wpAny_standAt (wpAny_bind (wpAny_mono (turn n s hI) (fun r s₁ h₁ => ?_) fun _ _ h' => h')))
  cases r with
  | none => exact wpAny_pure h₁
  | some v =>
    refine wpAny_bind (wpAny_mono h₁ (fun _ s₁' h₁' => wpAny_bind (wpAny_mono h₁' (fun _ s₂ h₂ => wpAny_bind (wpAny_mono h₂ (fun ok s₃ h₃ => ?_) fun _ _ h' => h')) fun _ _ h' => h')) fun _ _ h' => h')
    cases ok with
    | false => exact wpAny_pure ⟨rfl, h₃⟩
    | true =>
      exact wpAny_bind (wpAny_bind (wpAny_mono h₃ (fun x s₄ h₄ => wpAny_bind (wpAny_mono h₄ (fun _ s₅ h₅ => wpAny_pure (wpAny_pure ⟨rfl, h₅⟩)) fun _ _ h' => h')) fun _ _ h' => h'))
/-- the cells that a comprehension sees -/
def clOf (env : Env) : List (Str × NameKind) → List (Str × Addr) → List (Str × Addr)
  | [], cs => cs
  | (n, k) :: r, cs => clOf env r (if k = .free then (n, (env.cells.lookup n).getD 0) :: cs else cs)
theorem clOf_run {env : Env} : ∀ (ns : List (Str × NameKind)) (cs : List (Str × Addr)), (∀ y ∈ ns, y.2 = .free → ∃ c, env.cells.lookup y.1 = some c) →
    (forIn ns cs fun (x : Str × NameKind) (r : List (Str × Addr)) => (if (x.2 == .free) = true then do let c ← cellOf env x.1; pure (ForInStep.yield ((x.1, c) :: r)) else pure (ForInStep.yield r) : Sem (ForInStep (List (Str × Addr))))) = (pure (clOf env ns cs) : Sem _)
  | [], cs, _ => rfl
  | (n, k) :: r, cs, h => by
    have hr := fun y hy => h y (List.mem_cons_of_mem _ hy)
    by_cases hk : k = .free
    · obtain ⟨c, hc⟩ := h (n, k) List.mem_cons_self hk
      subst hk
      rw [List.forIn_cons]
      have e : cellOf env n = pure c := by unfold cellOf; rw [hc]
      simp only [beq_self_eq_true, if_true, e, pure_bind]
      rw [clOf_run r _ hr]
      show _ = pure (clOf env r (if NameKind.free = NameKind.free then (n, (env.cells.lookup n).getD 0) :: cs else cs))
      rw [if_pos rfl, show env.cells.lookup n = some c from hc]
      rfl
    · have hb : (k == NameKind.free) = false := by simpa using hk
      rw [List.forIn_cons]
      simp only [hb, Bool.false_eq_true, if_false, pure_bind]
      rw [clOf_run r _ hr]
      show _ = pure (clOf env r (if k = NameKind.free then (n, (env.cells.lookup n).getD 0) :: cs else cs))
      rw [if_neg hk]
theorem closure_is {env : Env} {scope : Scope} (h : ∀ y ∈ scope.names, y.2 = .free → ∃ c, env.cells.lookup y.1 = some c) : closureFor scope env = pure (clOf env scope.names []) := by
  unfold closureFor
  have e := clOf_run scope.names [] h
  simp only [bind_pure] at e ⊢
  exact e
theorem clOf_lookup {env : Env} {x : Str} {c : Addr} : ∀ (ns : List (Str × NameKind)) (cs : List (Str × Addr)), (∀ y ∈ ns, y.2 = .free → ∃ c, env.cells.lookup y.1 = some c) → (∀ x c, cs.lookup x = some c → env.cells.lookup x = some c) →
    (clOf env ns cs).lookup x = some c → env.cells.lookup x = some c
  | [], cs, _, hc, e => hc x c e
  | (n, k) :: r, cs, h, hc, e => by
    unfold clOf at e
    refine clOf_lookup r _ (fun y hy => h y (List.mem_cons_of_mem _ hy)) (fun x' c' e' => ?_) e
    by_cases hk : k = .free
    · rw [if_pos hk] at e'
      obtain ⟨c0, h0⟩ := h (n, k) List.mem_cons_self hk
      rw [h0] at e'
      rw [List.lookup_cons] at e'
      by_cases q : x' == n
      · rw [q] at e'
        cases e'
        rw [beq_iff_eq.mp q]
        exact h0
      · have q' : (x' == n) = false := by simpa using q
        rw [q'] at e'
        exact hc x' c' e'
    · rw [if_neg hk] at e'
      exact hc x' c' e'
theorem clOf_has0 {env : Env} {x : Str} : ∀ (ns : List (Str × NameKind)) (cs : List (Str × Addr)), (∃ c, cs.lookup x = some c) → ∃ c, (clOf env ns cs).lookup x = some c
  | [], cs, h => h
  | (n, k) :: r, cs, h => by
    unfold clOf
    refine clOf_has0 r _ ?_
    by_cases hk : k = .free
    · rw [if_pos hk, List.lookup_cons]
      by_cases q : x == n
      · rw [q]; exact ⟨_, rfl⟩
      · have q' : (x == n) = false := by simpa using q
        rw [q']; exact h
    · rw [if_neg hk]; exact h
theorem clOf_has {env : Env} {x : Str} : ∀ (ns : List (Str × NameKind)) (cs : List (Str × Addr)), (x, NameKind.free) ∈ ns → ∃ c, (clOf env ns cs).lookup x = some c
  | (n, k) :: r, cs, h => by
    unfold clOf
    rcases List.mem_cons.mp h with e | e
    · cases e
      rw [if_pos rfl]
      exact clOf_has0 r _ ⟨_, by rw [List.lookup_cons, beq_self_eq_true]⟩
    · exact clOf_has r _ e

/-- the context of a comprehension's block -/
def Cx.comp (X : Cx) (scope : Scope) (C : Addr) (N : List Str) (s₀ : Shared) (H₀ : Hp) (ex : List Addr) (E : Value → Shared → Prop) : Cx where
  prog := X.prog
  w := X.w
  K := X.K
  mg := X.mg
  base := X.base
  A := X.A
  N := N
  s₀ := s₀
  H₀ := H₀
  env := compEnvC scope (clOf X.env scope.names []) C X.env
  outer := X.stack
  stack := X.stack
  ex := ex
  fn := fun _ => false
  calm := X.calm
  pn := []
  xe := E
/-- the tests of a clause -/
def PIfs (X : Cx) (ifs : List Expr) (t : TT) : Prop :=
  ∀ (pins : List (Addr × Obj)) (s : Shared) (σ : St) (H : Hp) (Q : Bool → Hp → Prop), Inv X pins σ H s → t σ H Q →
    wpAny (model X.prog X.w) X.A (forIn ifs true fun c r => if r = true then do let ok ← isTrue c X.env (eval c X.env); pure (ForInStep.yield ok) else pure (ForInStep.yield r)) (TP X pins σ Q) X.xe s
def tYes : TT := fun _ H Q => Q true H
theorem pifs_nil {X : Cx} : PIfs X [] tYes := fun _ _ _ H _ I h => wpAny_tests_nil ⟨H, I, h⟩
/-- what the block sees of the frame: its own names unset, then the frame's slots j -/
def capt (own : Nat) (js : List Nat) (σ : St) : St := List.replicate own none ++ js.map fun j => (σ[j]?).getD none
/-- the block from its start on: W the word by the turn and a measure -/
def CompW (J : It) (own : Nat) (js : List Nat) (g : TG) (ti : TT) (te : TE) (σ : St) (H1 : Hp) (acc : Addr) (Q : VK) : Prop :=
  ∃ W : Nat → Nat → Hp → Prop, (∃ m, W 0 m (upd H1 acc (.lst []))) ∧ ∀ i m H2, W i m H2 →
    (J.stop i H2 ∧ Q (.ref acc) H2) ∨ (J.go i H2 ∧ ∀ x H3, J.yld i H2 x H3 → g x (capt own js σ) H3 fun σ4 H4 => ti σ4 H4 fun b H5 =>
      if b = true then te σ4 H5 fun y H6 => rAppend (.ref acc) [y] H6 fun _ H7 => ∃ m', m' < m ∧ W (i + 1) m' H7 else ∃ m', m' < m ∧ W (i + 1) m' H5)
def tComp (own : Nat) (js : List Nat) (wi : TI) (g : TG) (ti : TT) (te : TE) : TE := fun σ H Q => wi σ H fun J H1 => ∀ acc, H1 acc = none → CompW J own js g ti te σ H1 acc Q
end L2
namespace L2
open PySem PySem.Spec PyProof.Rows
theorem thnF {α : Type} {t : Sem α} {Q Q' : α → Shared → Prop} {M : Model} {A : Around} {E : Value → Shared → Prop} {s : Shared} (h : wpAny M A t Q (fun _ _ => False) s) (hQ : ∀ a s, Q a s → Q' a s) : wpAny M A t Q' E s := wpAny_mono h hQ fun _ _ f => f.elim
theorem relabel_kind {scope : Scope} {env : Env} {x : Str} : ∀ {names : List (Str × NameKind)}, ((names.map fun (n, k) => if (k == NameKind.free && env.scope.kind == .function && env.kindOf n == some .cell) then (n, NameKind.cell) else (n, k)).lookup x = some .cell ∨
    (names.map fun (n, k) => if (k == NameKind.free && env.scope.kind == .function && env.kindOf n == some .cell) then (n, NameKind.cell) else (n, k)).lookup x = some .free) → (∀ y ∈ names, y.2 ≠ .cell) → (x, NameKind.free) ∈ names
  | [], h, _ => by simp at h
  | (n, k) :: r, h, hc => by
    have hr : ∀ y ∈ r, y.2 ≠ .cell := fun y hy => hc y (List.mem_cons_of_mem _ hy)
    have h0 : k ≠ .cell := hc (n, k) List.mem_cons_self
    rw [List.map_cons, List.lookup_cons] at h
    by_cases hb : (k == NameKind.free && env.scope.kind == .function && env.kindOf n == some .cell) = true
    · rw [if_pos hb] at h
      dsimp only at h
      by_cases q : x == n
      · have hk : k = .free := by simp only [Bool.and_eq_true, beq_iff_eq] at hb; exact hb.1.1
        rw [beq_iff_eq.mp q, hk]
        exact List.mem_cons_self
      · have q' : (x == n) = false := by simpa using q
        rw [q'] at h
        exact List.mem_cons_of_mem _ (relabel_kind (scope := scope) h hr)
    · rw [if_neg hb] at h
      dsimp only at h
      by_cases q : x == n
      · rw [q] at h
        dsimp only at h
        have hk : k = .free := by
          rcases h with h | h
          · exact absurd (Option.some.inj h) h0
          · exact Option.some.inj h
        rw [beq_iff_eq.mp q, hk]
        exact List.mem_cons_self
      · have q' : (x == n) = false := by simpa using q
        rw [q'] at h
        exact List.mem_cons_of_mem _ (relabel_kind (scope := scope) h hr)
/-- the target stores into the block's own slots alone -/
def OwnG (own : Nat) (g : TG) : Prop := ∀ v σ H (Q : St → Hp → Prop), g v σ H Q → g v σ H fun σ' H' => Q σ' H' ∧ σ'.length = σ.length ∧ ∀ i, own ≤ i → σ'[i]? = σ[i]?
theorem ownG_name {i own : Nat} (h : i < own) : OwnG own (gName i) := fun v σ H Q q => ⟨q, List.length_set .., fun j hj => by rw [List.getElem?_set_ne (by omega)]⟩
theorem capt_length (own : Nat) (js : List Nat) (σ : St) : (capt own js σ).length = own + js.length := by simp [capt]
theorem capt_some {own : Nat} {js : List Nat} {σ : St} {i : Nat} {v : V} (h : (capt own js σ)[i]? = some (some v)) : own ≤ i ∧ ∃ j, js[i - own]? = some j ∧ σ[j]? = some (some v) := by
  unfold capt at h
  by_cases hi : i < own
  · rw [List.getElem?_append_left (by simpa using hi), List.getElem?_replicate, if_pos hi] at h
    cases h
  · rw [List.getElem?_append_right (by simpa using hi), List.length_replicate, List.getElem?_map] at h
    refine ⟨by omega, ?_⟩
    cases e : js[i - own]? with
    | none => rw [e] at h; cases h
    | some j =>
      rw [e] at h
      refine ⟨j, rfl, ?_⟩
      have h' : (σ[j]?).getD none = some v := Option.some.inj h
      cases e2 : σ[j]? with
      | none => rw [e2] at h'; cases h'
      | some o => rw [e2] at h'; exact congrArg some h'
theorem comp_core {X : Cx} {elt tg iter : Expr} {ifs : List Expr} {scope : Scope} {pos ps : Pos} {N : List Str} {own : Nat} {js : List Nat} {wi : TI} {g : TG} {ti : TT} {te : TE} (hc : X.calm = true)
    (hcell : ∀ y ∈ scope.names, y.2 ≠ .cell) (hkind : scope.kind = .function) (hnames : ∀ y ∈ scope.names, y.2 = .local → scope.names.lookup y.1 = some .local)
    (hfree : ∀ y ∈ scope.names, y.2 = .free → X.env.kindOf y.1 = some .cell ∨ X.env.kindOf y.1 = some .free) (hlen : N.length = own + js.length)
    (hcap : ∀ (i j : Nat) (x : Str), js[i]? = some j → N[own + i]? = some x → X.N[j]? = some x ∧ (x, NameKind.free) ∈ scope.names ∧ (X.env.kindOf x = some .cell ∨ X.env.kindOf x = some .free) ∧ ((relabel scope X.env).names.lookup x = some .cell ∨ (relabel scope X.env).names.lookup x = some .free))
    (hi : PI X tg iter wi) (hg : ∀ C s₀ H₀ ex, PG (X.comp scope C N s₀ H₀ ex fun _ _ => False) tg g) (ho : OwnG own g) (ht : ∀ C s₀ H₀ ex, PIfs (X.comp scope C N s₀ H₀ ex fun _ _ => False) ifs ti) (he : ∀ C s₀ H₀ ex, PE (X.comp scope C N s₀ H₀ ex fun _ _ => False) elt te)
    {pins : List (Addr × Obj)} {s : Shared} {σ : St} {H : Hp} {Q : VK} {use : Option (Value → Sem Unit)} {RQ : Value → Shared → Prop} (I : Inv X pins σ H s) (h : tComp own js wi g ti te σ H Q)
    (fin : ∀ (acc C : Addr) (H3 : Hp) (s4 : Shared) (m : Str → Option Value), Inv X pins σ H3 s4 → s4.heap.Ns C m → H3 C = none → C ≠ X.env.locals → C ∉ X.fs → X.s₀.heap.objs.size ≤ C → (∀ x c, X.env.cells.lookup x = some c → c ≠ C) → (∀ p ∈ X.pn ++ pins, p.1 ≠ C) →
      Q (.ref acc) H3 → compPost (model X.prog X.w) X.A X.xe use RQ (.ref acc) C (.ok .next) s4)
    (hs : ∀ x, foldedSetIterable iter X.env x = pure x := by intro _; rfl) :
    wpAny (model X.prog X.w) X.A (comprehension (.ListComp elt [⟨tg, iter, ifs, 0⟩] scope pos) scope X.env ps (newList []) false (eval iter X.env) use) RQ X.xe s := by
  have hcl : ∀ y ∈ scope.names, y.2 = .free → ∃ c, X.env.cells.lookup y.1 = some c := fun y hy hf => I.ok.has y.1 (hfree y hy hf)
  refine wpAny_comprehension_free (use := use) rfl hs (closure_is hcl) hkind hnames (thn (hi pins s σ H _ I h) fun v s1 h1 => thn h1 fun itv s2 h2 => ?_)
  obtain ⟨it, fp, tn, J, H2, e, I2, T, st2, f2, q⟩ := h2
  subst e
  have nf : H2 s2.heap.objs.size = none := I2.hok.fresh (Nat.le_refl _)
  obtain ⟨W, ⟨m0, w0⟩, turn⟩ := q s2.heap.objs.size nf
  refine wpAny_newObj_type (wpAny_newFunctionEnv hcell (by intro y hy; simp at hy) (fun h₁ hns₁ hsb₁ => ?_) hkind)
  dsimp only at hns₁ hsb₁ ⊢
  generalize hP2 : s2.heap.push { cls := .type "list", dict := none, data := .seq ([] : List Value).toArray } = P2 at hns₁ hsb₁ ⊢
  have hC : P2.objs.size = s2.heap.objs.size + 1 := by rw [← hP2, Heap.size_push]
  have hC1 : s2.heap.objs.size < P2.objs.size := by rw [hC]; exact Nat.lt_succ_self _
  have kp : ∀ b o, s2.heap.get? b = some o → h₁.get? b = some o := fun b o e => hsb₁.extBut b o (Nat.ne_of_lt (Nat.lt_trans (Heap.lt_size e) hC1)) (Heap.get?_push_of_some _ (hP2 ▸ Heap.get?_push_of_some _ e))
  have hacc : h₁.get? s2.heap.objs.size = some { cls := .type "list", dict := none, data := .seq ([] : List Value).toArray } := hsb₁.extBut _ _ (Nat.ne_of_lt hC1) (Heap.get?_push_of_some _ (hP2 ▸ Heap.get?_push_size _ rfl))
  have lkc : ∀ x c, (clOf X.env scope.names []).lookup x = some c → X.env.cells.lookup x = some c := fun x c e => clOf_lookup scope.names [] hcl (fun _ _ z => by simp at z) e
  have cne : ∀ x c, (clOf X.env scope.names []).lookup x = some c → c < s2.heap.objs.size ∧ H2 c = none := fun x c e => by
    obtain ⟨v, o, ho, hd⟩ := I2.cell x c (lkc x c e)
    exact ⟨Heap.lt_size ho, I2.freeC x c (lkc x c e)⟩
  have fpl : ∀ b ∈ fp, b < s2.heap.objs.size := fun b hb => by
    obtain ⟨o, e, _⟩ := T.obj 0 _ st2 b hb
    exact Heap.lt_size e
  -- the block's invariant, as it starts
  have hX : (X.comp scope P2.objs.size N s2 H2 fp fun _ _ => False).Ok := {
    mod := I.ok.mod
    kind := hkind
    glob := I.ok.glob
    blt := I.ok.blt
    above := Nat.le_of_lt hC1
    inj := fun x y c a b => I.ok.inj x y c (lkc x c a) (lkc y c b)
    has := fun x hx => clOf_has scope.names [] (relabel_kind (scope := scope) (env := X.env) hx hcell)
    cab := fun x c a _ => by cases (show false = true from a)
    hd := I.ok.hd
    frames := I.ok.frames
    stk := .inl rfl
    exf := fun b hb => ⟨Nat.ne_of_lt (Nat.lt_trans (fpl b hb) hC1), fun x c a => (f2 b hb).2.2.2.2.1 x c (lkc x c a)⟩
    bs := I2.bs
    bsz := Nat.le_trans I.ok.bsz I2.sz
    noex := fun b o e hb => by
      rcases (f2 b hb).2.2.2.1 with z | z
      · exact I.ok.noex b o e z
      · exact absurd (Nat.lt_of_lt_of_le (Nat.lt_of_lt_of_le (Heap.lt_size e) I.ok.bsz) z) (Nat.lt_irrefl _)
    exfs := fun b hb z => by
      rcases List.mem_cons.mp (I2.stkSub b z) with z | z
      · exact (f2 b hb).2.1 z
      · exact (f2 b hb).2.2.1 z
    funs := I2.stack
    frf := I2.stkFree }
  have I3 : ∀ tk, Inv (X.comp scope P2.objs.size N s2 H2 fp fun _ _ => False) [] (capt own js σ) (upd H2 s2.heap.objs.size (.lst [])) { s2 with heap := h₁, toks := tk } := fun tk => {
    ok := hX
    os := rfl
    bare := I2.bare
    base := Un.laid kp (Nat.le_refl _) nf
    loc := ⟨_, hns₁, fun i x v a b c => by
      obtain ⟨hio, j, hj, hv⟩ := capt_some b
      obtain ⟨h3, h4, h5, h6⟩ := hcap (i - own) j x hj (by rw [show own + (i - own) = i by omega]; exact a)
      obtain ⟨m, hn, hl⟩ := I2.loc
      obtain ⟨u, ru, lk⟩ := hl j x v h3 hv (.inr h5)
      refine ⟨u, ru, .inr ⟨h6, ?_⟩⟩
      rcases lk with ⟨z, _⟩ | ⟨_, c0, z1, z2⟩
      · rcases h5 with h5 | h5 <;> (rw [h5] at z; cases z)
      · obtain ⟨c1, hc1⟩ := clOf_has (env := X.env) scope.names [] h4
        have := lkc x c1 hc1
        rw [z1] at this
        cases this
        obtain ⟨o, ho, hd⟩ := z2
        exact ⟨c0, hc1, o, kp _ _ ho, hd⟩⟩
    cell := fun x c a => by
      obtain ⟨v, o, ho, hd⟩ := I2.cell x c (lkc x c a)
      exact ⟨v, o, kp _ _ ho, hd⟩
    free := by
      show upd H2 _ _ P2.objs.size = none
      rw [upd_ne (Nat.ne_of_gt hC1)]
      exact I2.hok.fresh (Nat.le_of_lt hC1)
    freeC := fun x c a => by
      rw [upd_ne (Nat.ne_of_lt (cne x c a).1)]
      exact (cne x c a).2
    pin := fun p hp => absurd (show p ∈ ([] : List (Addr × Obj)) from hp) (by simp)
    hok := I2.hok.laid kp (Nat.le_refl _) ⟨Nat.zero_le _, [], 0, .nil, hacc⟩
    len := by rw [capt_length]; exact hlen.symm }
  have fr0 : ∀ b ∈ fp, upd H2 s2.heap.objs.size (.lst []) b = none := fun b hb => by
    rw [upd_ne (Nat.ne_of_lt (fpl b hb))]
    exact (f2 b hb).1
  have st3 : tn 0 h₁ := T.keep 0 _ _ st2 fun b _ o e => kp b o e
  have stat : ∀ {H' : Hp}, (∀ b ∈ fp, H' b = none) → ∀ b ∈ fp, FpOk (X.comp scope P2.objs.size N s2 H2 fp fun _ _ => False) [] H' b := fun hn b hb =>
    ⟨hn b hb, (hX.exf b hb).1, hX.exfs b hb, .inl hb, fun x c a => (hX.exf b hb).2 x c a, fun p hp => absurd (show p ∈ ([] : List (Addr × Obj)) from hp) (by simp)⟩
  have loop : ∀ s₃ : Shared, s₃ = { s2 with heap := h₁, toks := s2.toks + ([] : List (Str × Value)).length } →
      codeAny (model X.prog X.w) X.A (.compLoop (.ListComp elt [⟨tg, iter, ifs, 0⟩] scope pos) 0 (.ref it) (.ref s2.heap.objs.size) (compEnvC scope (clOf X.env scope.names []) P2.objs.size X.env))
        (compPost (model X.prog X.w) X.A X.xe use RQ (.ref s2.heap.objs.size) P2.objs.size) s₃ := by
    rintro s₃ rfl
    refine comp_loop (fun n s' => ∃ i H', Inv (X.comp scope P2.objs.size N s2 H2 fp fun _ _ => False) [] (capt own js σ) H' s' ∧ tn i s'.heap ∧ (∀ b ∈ fp, H' b = none) ∧ W i n H') ?_ m0 ⟨0, _, I3 _, st3, fr0, w0⟩
    rintro n s3 ⟨i, H3, J3, t3, fr3, w3⟩
    rcases turn i n H3 w3 with ⟨stop, qd⟩ | ⟨go, step⟩
    · refine thnF (T.done (X.comp scope P2.objs.size N s2 H2 fp fun _ _ => False) rfl rfl rfl hc i [] s3 _ H3 _ J3 (stat fr3) t3 stop) fun r s4 ⟨hr, J4⟩ => ?_
      subst hr
      obtain ⟨m, hn, _⟩ := J4.loc
      have B : Un (frs X.stack) fp H2 H3 s2.heap s4.heap := J4.base
      have I5 : Inv X pins σ H3 s4 := I2.call' J4.os B J4.hok J4.bare fun b hb => by
        obtain ⟨a1, a2, a3, a4, a5, a6⟩ := f2 b hb
        exact ⟨a4, a2, a5, a6⟩
      have hp := I2.fpOk (H' := H3) (b := P2.objs.size) (Nat.le_of_lt hC1) J4.free
      obtain ⟨a1, a2, a3, a4, a5, a6⟩ := hp
      exact fin s2.heap.objs.size P2.objs.size H3 s4 m I5 hn a1 a2 a3 (Nat.le_trans I2.sz (Nat.le_of_lt hC1)) a5 a6 qd
    · refine thnF (T.item (X.comp scope P2.objs.size N s2 H2 fp fun _ _ => False) rfl rfl rfl hc i [] s3 _ H3 _ J3 (stat fr3) t3 go) fun r s4 ⟨u, hr, h4⟩ => ?_
      subst hr
      refine thnF h4 fun _ s5 ⟨x, H5, J5, r5, y5, t5, fr5⟩ => ?_
      have J5' := J5.pinned (stat fr5) (T.obj _ _ t5)
      refine thnF (hg _ _ _ _ _ s5 _ H5 x u _ J5' r5 (ho _ _ _ _ (step x H5 y5))) fun _ s6 ⟨σ6, H6, J6, q6, hl6, ho6⟩ => ?_
      have again : ∀ {s7 : Shared} {H7 : Hp}, Inv (X.comp scope P2.objs.size N s2 H2 fp fun _ _ => False) ([] ++ pinsAt fp s5.heap) σ6 H7 s7 → (∃ m', m' < n ∧ W (i + 1) m' H7) →
          ∃ m, m < n ∧ ∃ i H', Inv (X.comp scope P2.objs.size N s2 H2 fp fun _ _ => False) [] (capt own js σ) H' s7 ∧ tn i s7.heap ∧ (∀ b ∈ fp, H' b = none) ∧ W i m H' := fun {s7 H7} J7 z => by
        obtain ⟨m', hm, w7⟩ := z
        refine ⟨m', hm, i + 1, H7, J7.unpinned.weak (by rw [hl6]) (fun k v z => ?_), T.keep _ _ _ t5 fun b hb o e => (J7.pin (b, o) (List.mem_append_right _ (List.mem_append_right _ (mem_pinsAt hb e)))).1, fun b hb => ?_, w7⟩
        · rw [ho6 k (capt_some z).1]
          exact z
        · obtain ⟨o, e, d⟩ := T.obj _ _ t5 b hb
          exact (J7.pin (b, o) (List.mem_append_right _ (List.mem_append_right _ (mem_pinsAt hb e)))).2.1
      refine thnF (ht _ _ _ _ _ s6 σ6 H6 _ J6 q6) fun ok s7 ⟨H7, J7, q7⟩ => ?_
      cases ok with
      | false => exact again J7 q7
      | true =>
        refine thnF (he _ _ _ _ _ s7 σ6 H7 _ J7 q7) fun y s8 ⟨yv, H8, J8, r8, q8⟩ => ?_
        exact thnF (mt_append _ s8 σ6 H8 (.ref s2.heap.objs.size) [yv] (.ref s2.heap.objs.size) [y] _ J8 rfl (.cons r8 .nil) q8) fun _ s9 ⟨_, H9, J9, _, q9⟩ => again J9 q9
  exact codeAny_compStart_list (loop _ rfl) (T.self X.A 0 _ _ _ st3 (loop _ rfl))

/-- [elt for tg in iter if ..] -/
theorem pe_comp {X : Cx} {elt tg iter : Expr} {ifs : List Expr} {scope : Scope} {pos : Pos} {N : List Str} {own : Nat} {js : List Nat} {wi : TI} {g : TG} {ti : TT} {te : TE} (hc : X.calm = true)
    (hcell : ∀ y ∈ scope.names, y.2 ≠ .cell) (hkind : scope.kind = .function) (hnames : ∀ y ∈ scope.names, y.2 = .local → scope.names.lookup y.1 = some .local)
    (hfree : ∀ y ∈ scope.names, y.2 = .free → X.env.kindOf y.1 = some .cell ∨ X.env.kindOf y.1 = some .free) (hlen : N.length = own + js.length)
    (hcap : ∀ (i j : Nat) (x : Str), js[i]? = some j → N[own + i]? = some x → X.N[j]? = some x ∧ (x, NameKind.free) ∈ scope.names ∧ (X.env.kindOf x = some .cell ∨ X.env.kindOf x = some .free) ∧ ((relabel scope X.env).names.lookup x = some .cell ∨ (relabel scope X.env).names.lookup x = some .free))
    (hi : PI X tg iter wi) (hg : ∀ C s₀ H₀ ex, PG (X.comp scope C N s₀ H₀ ex fun _ _ => False) tg g) (ho : OwnG own g) (ht : ∀ C s₀ H₀ ex, PIfs (X.comp scope C N s₀ H₀ ex fun _ _ => False) ifs ti) (he : ∀ C s₀ H₀ ex, PE (X.comp scope C N s₀ H₀ ex fun _ _ => False) elt te)
    (hs : ∀ x, foldedSetIterable iter X.env x = pure x := by intro _; rfl) : PE X (.ListComp elt [⟨tg, iter, ifs, 0⟩] scope pos) (tComp own js wi g ti te) := by
  intro pins s σ H Q I h
  rw [eval_ListComp]
  refine comp_core hc hcell hkind hnames hfree hlen hcap hi hg ho ht he I h (use := none) (fun acc C H3 s4 m I5 hn c1 c2 c3 c4 c5 c6 q => ?_) hs
  refine ⟨m, hn, fun h' sb => ⟨.ref acc, H3, ?_, rfl, q⟩⟩
  exact I5.turned (t' := s4.toks) (it := C) (fun b o hb e => (sb.2 b hb).trans e) c1 c2 (.inr c4) c5 c6
end L2
/-! ### the comprehension's rules with one check over the written text -/
namespace L2
open PySem PySem.Spec PyProof.Rows
def compOk (XN : List Str) (sc scope : Scope) (own : Nat) (js : List Nat) (N : List Str) : Bool :=
  (scope.names.all fun y => decide (y.2 ≠ .cell) && (decide (y.2 ≠ .local) || decide (scope.names.lookup y.1 = some .local)) && (decide (y.2 ≠ .free) || decide (sc.names.lookup y.1 = some .cell) || decide (sc.names.lookup y.1 = some .free))) &&
    decide (scope.kind = .function) && decide (N.length = own + js.length) &&
    (List.range js.length).all fun i => match js[i]?, N[own + i]? with
      | some j, some x => decide (XN[j]? = some x) && decide (scope.names.lookup x = some .free) && (decide (sc.names.lookup x = some .cell) || decide (sc.names.lookup x = some .free))
      | _, _ => false
theorem lookup_relabel_free {env : Env} : ∀ {names : List (Str × NameKind)} {x : Str}, names.lookup x = some .free →
    (names.map fun (n, k) => if (k == NameKind.free && env.scope.kind == .function && env.kindOf n == some .cell) then (n, NameKind.cell) else (n, k)).lookup x = some .cell ∨
    (names.map fun (n, k) => if (k == NameKind.free && env.scope.kind == .function && env.kindOf n == some .cell) then (n, NameKind.cell) else (n, k)).lookup x = some .free
  | [], _, h => by simp at h
  | (n, k) :: r, x, h => by
    have ih := @lookup_relabel_free env r x
    rw [List.map_cons, List.lookup_cons]
    rw [List.lookup_cons] at h
    by_cases hc : (k == NameKind.free && env.scope.kind == .function && env.kindOf n == some .cell) = true
    · rw [if_pos hc]
      dsimp only
      cases hx : x == n with
      | true => exact .inl rfl
      | false =>
        rw [hx] at h
        exact ih h
    · rw [if_neg hc]
      dsimp only
      cases hx : x == n with
      | true =>
        rw [hx] at h
        exact .inr h
      | false =>
        rw [hx] at h
        exact ih h
structure CompOk (XN : List Str) (sc scope : Scope) (own : Nat) (js : List Nat) (N : List Str) : Prop where
  cell : ∀ y ∈ scope.names, y.2 ≠ .cell
  names : ∀ y ∈ scope.names, y.2 = .local → scope.names.lookup y.1 = some .local
  free : ∀ y ∈ scope.names, y.2 = .free → sc.names.lookup y.1 = some .cell ∨ sc.names.lookup y.1 = some .free
  kind : scope.kind = .function
  len : N.length = own + js.length
  cap : ∀ (i j : Nat) (x : Str), js[i]? = some j → N[own + i]? = some x → XN[j]? = some x ∧ scope.names.lookup x = some .free ∧ (sc.names.lookup x = some .cell ∨ sc.names.lookup x = some .free)
theorem compOk_of {XN : List Str} {sc scope : Scope} {own : Nat} {js : List Nat} {N : List Str} (h : compOk XN sc scope own js N = true) : CompOk XN sc scope own js N := by
  unfold compOk at h
  rw [Bool.and_eq_true, Bool.and_eq_true, Bool.and_eq_true] at h
  obtain ⟨⟨⟨h1, h2⟩, h3⟩, h4⟩ := h
  rw [List.all_eq_true] at h1 h4
  refine ⟨fun y hy => ?_, fun y hy e => ?_, fun y hy e => ?_, of_decide_eq_true h2, of_decide_eq_true h3, fun i j x a b => ?_⟩
  · have := h1 y hy
    rw [Bool.and_eq_true, Bool.and_eq_true] at this
    exact of_decide_eq_true this.1.1
  · have := h1 y hy
    rw [Bool.and_eq_true, Bool.and_eq_true, Bool.or_eq_true] at this
    rcases this.1.2 with z | z
    · exact absurd e (of_decide_eq_true z)
    · exact of_decide_eq_true z
  · have := h1 y hy
    rw [Bool.and_eq_true, Bool.and_eq_true, Bool.or_eq_true, Bool.or_eq_true, Bool.or_eq_true] at this
    rcases this.2 with (z | z) | z
    · exact absurd e (of_decide_eq_true z)
    · exact .inl (of_decide_eq_true z)
    · exact .inr (of_decide_eq_true z)
  · have hi : i < js.length := (List.getElem?_eq_some_iff.mp a).1
    have := h4 i (List.mem_range.mpr hi)
    rw [a, b] at this
    dsimp only at this
    rw [Bool.and_eq_true, Bool.and_eq_true, Bool.or_eq_true] at this
    exact ⟨of_decide_eq_true this.1.1, of_decide_eq_true this.1.2, this.2.imp of_decide_eq_true of_decide_eq_true⟩
section
variable {X : Cx} {XN : List Str} {sc scope : Scope} {elt tg iter : Expr} {ifs : List Expr} {pos : Pos} {N : List Str} {own : Nat} {js : List Nat} {wi : TI} {g : TG} {ti : TT} {te : TE}
theorem pe_compB (hc : X.calm = true) (ok : compOk XN sc scope own js N = true) (hsc : X.env.scope = sc) (hXN : X.N = XN) (hi : PI X tg iter wi) (hg : ∀ C s₀ H₀ ex, PG (X.comp scope C N s₀ H₀ ex fun _ _ => False) tg g) (ho : OwnG own g)
    (ht : ∀ C s₀ H₀ ex, PIfs (X.comp scope C N s₀ H₀ ex fun _ _ => False) ifs ti) (he : ∀ C s₀ H₀ ex, PE (X.comp scope C N s₀ H₀ ex fun _ _ => False) elt te)
    (hs : ∀ x, foldedSetIterable iter X.env x = pure x := by intro _; rfl) : PE X (.ListComp elt [⟨tg, iter, ifs, 0⟩] scope pos) (tComp own js wi g ti te) := by
  obtain ⟨h1, h2, h3, h4, h5, h6⟩ := compOk_of ok
  subst hsc hXN
  refine pe_comp hc h1 h4 h2 h3 h5 (fun i j x a b => ?_) hi hg ho ht he hs
  obtain ⟨z1, z2, z3⟩ := h6 i j x a b
  exact ⟨z1, PySem.mem_of_lookup z2, z3, lookup_relabel_free z2⟩
end
/-- over a list that stays -/
theorem comp_list {K : PySem.W.Frag} {a : Addr} {xs : List V} {own : Nat} {js : List Nat} {g : TG} {ti : TT} {te : TE} {σ : St} {H1 : Hp} {acc : Addr} {Q : VK} (Pv : Nat → Hp → Prop) (h0 : Pv 0 (upd H1 acc (.lst []))) (hl : ∀ i H2, i ≤ xs.length → Pv i H2 → SqL K H2 a xs)
    (hs : ∀ i x H2, xs[i]? = some x → Pv i H2 → g x (capt own js σ) H2 fun σ4 H4 => ti σ4 H4 fun b H5 => if b = true then te σ4 H5 fun y H6 => rAppend (.ref acc) [y] H6 fun _ H7 => Pv (i + 1) H7 else Pv (i + 1) H5) (hd : ∀ H2, Pv xs.length H2 → Q (.ref acc) H2)
    (mono : ∀ σ H (R R' : St → Hp → Prop) x, (∀ σ' H', R σ' H' → R' σ' H') → g x σ H R → g x σ H R') (monoT : ∀ σ H (R R' : Bool → Hp → Prop), (∀ b H', R b H' → R' b H') → ti σ H R → ti σ H R') (monoE : ∀ σ H (R R' : VK), (∀ v H', R v H' → R' v H') → te σ H R → te σ H R') :
    CompW (Itl K a) own js g ti te σ H1 acc Q := by
  refine ⟨fun i m H2 => m = xs.length - i ∧ i ≤ xs.length ∧ Pv i H2, ⟨xs.length, by simp, Nat.zero_le _, h0⟩, ?_⟩
  rintro i m H2 ⟨rfl, hi, p⟩
  have q := hl i H2 hi p
  by_cases hlt : i < xs.length
  · refine .inr ⟨⟨xs, xs[i], q, by simp [hlt]⟩, fun x H3 y => ?_⟩
    obtain ⟨e1, y⟩ := y
    subst e1
    refine mono _ _ _ _ _ (fun σ4 H4 q => monoT _ _ _ _ (fun b H5 q => ?_) q) (hs i x _ (y xs q) p)
    cases b with
    | true =>
      refine monoE _ _ _ _ (fun v H6 q => ?_) q
      obtain ⟨l, xs, y, a1, a2, a3, a4, a5⟩ := q
      exact ⟨l, xs, y, a1, a2, a3, a4, _, by omega, rfl, hlt, a5⟩
    | false => exact ⟨_, by omega, rfl, hlt, q⟩
  · have e : i = xs.length := by omega
    subst e
    exact .inl ⟨⟨xs, q, Nat.le_refl _⟩, hd H2 p⟩
theorem mono_name {i : Nat} : ∀ (σ : St) (H : Hp) (R R' : St → Hp → Prop) (x : V), (∀ σ' H', R σ' H' → R' σ' H') → gName i x σ H R → gName i x σ H R' := fun _ _ _ _ _ k h => k _ _ h
theorem yesN {A B : St → Hp → Prop} {i : Nat} {x : V} {σ : St} {H : Hp} (h : A (σ.set i (some x)) H) : gName i x σ H fun σ4 H4 => tYes σ4 H4 fun b H5 => if b = true then A σ4 H5 else B σ4 H5 := by
  show if true = true then A (σ.set i (some x)) H else B (σ.set i (some x)) H
  rw [if_pos rfl]
  exact h
theorem mono_yes : ∀ (σ : St) (H : Hp) (R R' : Bool → Hp → Prop), (∀ b H', R b H' → R' b H') → tYes σ H R → tYes σ H R' := fun _ _ _ _ k h => k _ _ h
end L2
/-! ### rules that name the written part, for a comprehension's block -/
namespace L2
open PySem PySem.Spec PyProof.Rows
section
variable {X : Cx} {K : PySem.W.Frag}
end
end L2
/-! ### ==, != of ints, lists, tuples at any depth; sum; // by larger numbers -/
namespace L2
open PySem PySem.Spec PyProof.Rows
/-- what == tells, d deep -/
inductive EqR (K : PySem.W.Frag) (H : Hp) : Nat → V → V → Bool → Prop where
  | int (d : Nat) (i j : Int) : EqR K H d (.int i) (.int j) (decide (i = j))
  | lists {d : Nat} {a b : Addr} {xs ys : List V} (es : Nat → Bool) (h1 : SqL K H a xs) (h2 : SqL K H b ys) (hl : xs.length = ys.length) (he : ∀ (j : Nat) x y, xs[j]? = some x → ys[j]? = some y → EqR K H d x y (es j)) : EqR K H (d + 1) (.ref a) (.ref b) ((List.range xs.length).all es)
  | lens {d : Nat} {a b : Addr} {xs ys : List V} (h1 : SqL K H a xs) (h2 : SqL K H b ys) (hl : xs.length ≠ ys.length) : EqR K H (d + 1) (.ref a) (.ref b) false
  | tuples {d : Nat} {a b : Addr} {xs ys : List V} (es : Nat → Bool) (h1 : SqT K H a xs) (h2 : SqT K H b ys) (he : ∀ (j : Nat) x y, xs[j]? = some x → ys[j]? = some y → EqR K H d x y (es j)) : EqR K H (d + 1) (.ref a) (.ref b) ((List.range (min xs.length ys.length)).all es && xs.length == ys.length)
section
variable {X : Cx} {pins : List (Addr × Obj)} {σ : St} {H : Hp} {s : Shared}
theorem EqR.same (I : Inv X pins σ H s) {d : Nat} {x y : V} {e : Bool} (h : EqR X.K H d x y e) : x = y → e = true := by
  induction h with
  | int d i j => intro q; cases q; simp
  | lists es h1 h2 hl he ih =>
    intro q
    cases q
    have z := I.list_inj h1 h2
    subst z
    rw [List.all_eq_true]
    intro j hj
    rw [List.mem_range] at hj
    have hx := List.getElem?_eq_getElem hj
    exact ih j _ _ hx hx rfl
  | lens h1 h2 hl =>
    intro q
    cases q
    exact absurd (congrArg List.length (I.list_inj h1 h2)) hl
  | @tuples d a b xs ys es h1 h2 he ih =>
    intro q
    cases q
    have z := I.tuple_inj h1 h2
    subst z
    rw [Bool.and_eq_true]
    refine ⟨?_, by simp⟩
    rw [List.all_eq_true]
    intro j hj
    rw [List.mem_range, Nat.min_self] at hj
    have hx := List.getElem?_eq_getElem hj
    exact ih j _ _ hx hx rfl
theorem units_in1 (A : Around) : A.in1.units = A.units + 1 := rfl
theorem EqR.at_ (I : Inv X pins σ H s) {d : Nat} {x y : V} {e : Bool} (h : EqR X.K H d x y e) : ∀ {A : Around} {u v : Value}, A.units + d < cLine → RelV x u → RelV y v → SeqAt.RcAt A s u v e ∧ SeqAt.RcNeAt A s u v (!e) ∧ SeqAt.EqAt A s u v e := by
  induction h with
  | int d i j =>
    intro A u v hu ru rv
    obtain ⟨t, rfl⟩ := ru
    obtain ⟨t', rfl⟩ := rv
    have e : decide (i = j) = (i == j) := by rw [Bool.beq_eq_decide_eq]
    rw [e]
    exact ⟨SeqAt.RcAt.int_int i t j t', SeqAt.RcNeAt.int_int i t j t', SeqAt.EqAt.int_int i t j t'⟩
  | @lists d a b xs ys es h1 h2 hl he ih =>
    intro A u v hu ru rv
    obtain rfl : u = Value.ref a := ru
    obtain rfl : v = Value.ref b := rv
    obtain ⟨is, r1, p1, z1⟩ := I.list h1
    obtain ⟨js, r2, p2, z2⟩ := I.list h2
    have l1 := r1.length
    have l2 := r2.length
    have ln : xs.length = is.toArray.size := by simpa using l1
    have sz : is.toArray.size = js.toArray.size := by simp only [List.size_toArray]; omega
    have it : ∀ j (q1 : j < is.toArray.size) (q2 : j < js.toArray.size), SeqAt.EqAt A.in1 s is.toArray[j] js.toArray[j] (es j) := fun j q1 q2 => by
      simp only [List.size_toArray] at q1 q2
      have hx : xs[j]? = some xs[j] := List.getElem?_eq_getElem (by omega)
      have hy : ys[j]? = some ys[j] := List.getElem?_eq_getElem (by omega)
      obtain ⟨u1, e1, ru1⟩ := r1.get hx
      obtain ⟨u2, e2, ru2⟩ := r2.get hy
      have g1 : is.toArray[j] = u1 := by
        rw [List.getElem?_eq_getElem q1] at e1
        simpa using Option.some.inj e1
      have g2 : js.toArray[j] = u2 := by
        rw [List.getElem?_eq_getElem q2] at e2
        simpa using Option.some.inj e2
      rw [g1, g2]
      exact (ih j _ _ hx hy (by rw [units_in1]; omega) ru1 ru2).2.2
    rw [ln]
    have R := SeqAt.RcAt.lists (A := A) p1.isList p2.isList sz (by omega) it
    refine ⟨R, SeqAt.RcNeAt.lists p1.isList p2.isList sz (by omega) it, ?_⟩
    by_cases q : a = b
    · subst q
      have := (EqR.lists es h1 h2 hl he).same I rfl
      rw [ln] at this
      rw [this]
      exact SeqAt.EqAt.same _
    · exact SeqAt.EqAt.of_refs q R
  | @lens d a b xs ys h1 h2 hl =>
    intro A u v hu ru rv
    obtain rfl : u = Value.ref a := ru
    obtain rfl : v = Value.ref b := rv
    obtain ⟨is, r1, p1, z1⟩ := I.list h1
    obtain ⟨js, r2, p2, z2⟩ := I.list h2
    have l1 := r1.length
    have l2 := r2.length
    have sz : (is.toArray.size != js.toArray.size) = true := by
      simp only [List.size_toArray, bne_iff_ne, ne_eq]
      omega
    have R := SeqAt.RcAt.lists_lengths (A := A) p1.isList p2.isList sz (by omega)
    refine ⟨R, SeqAt.RcNeAt.lists_lengths p1.isList p2.isList sz (by omega), ?_⟩
    by_cases q : a = b
    · subst q
      exact absurd (congrArg List.length (I.list_inj h1 h2)) hl
    · exact SeqAt.EqAt.of_refs q R
  | @tuples d a b xs ys es h1 h2 he ih =>
    intro A u v hu ru rv
    obtain rfl : u = Value.ref a := ru
    obtain rfl : v = Value.ref b := rv
    obtain ⟨is, r1, p1, z1⟩ := I.tuple h1
    obtain ⟨js, r2, p2, z2⟩ := I.tuple h2
    have l1 := r1.length
    have l2 := r2.length
    have ln : xs.length = is.toArray.size := by simpa using l1
    have ln2 : ys.length = js.toArray.size := by simpa using l2
    have it : ∀ j (q1 : j < is.toArray.size) (q2 : j < js.toArray.size), SeqAt.EqAt A.in1 s is.toArray[j] js.toArray[j] (es j) := fun j q1 q2 => by
      simp only [List.size_toArray] at q1 q2
      have hx : xs[j]? = some xs[j] := List.getElem?_eq_getElem (by omega)
      have hy : ys[j]? = some ys[j] := List.getElem?_eq_getElem (by omega)
      obtain ⟨u1, e1, ru1⟩ := r1.get hx
      obtain ⟨u2, e2, ru2⟩ := r2.get hy
      have g1 : is.toArray[j] = u1 := by
        rw [List.getElem?_eq_getElem q1] at e1
        simpa using Option.some.inj e1
      have g2 : js.toArray[j] = u2 := by
        rw [List.getElem?_eq_getElem q2] at e2
        simpa using Option.some.inj e2
      rw [g1, g2]
      exact (ih j _ _ hx hy (by rw [units_in1]; omega) ru1 ru2).2.2
    rw [ln, ln2]
    have R := SeqAt.RcAt.tuples (A := A) (show s.heap.IsTuple a is.toArray from p1) (show s.heap.IsTuple b js.toArray from p2) (by omega) it
    refine ⟨R, SeqAt.RcNeAt.tuples (show s.heap.IsTuple a is.toArray from p1) (show s.heap.IsTuple b js.toArray from p2) (by omega) it, ?_⟩
    by_cases q : a = b
    · subst q
      have := (EqR.tuples es h1 h2 he).same I rfl
      rw [ln, ln2] at this
      rw [this]
      exact SeqAt.EqAt.same _
    · exact SeqAt.EqAt.of_refs q R
/-- == and != of lists and tuples -/
def rEqS (K : PySem.W.Frag) (neg : Bool) : R2 := fun x y H Q => ∃ d e, EqR K H d x y e ∧ d ≤ 8 ∧ Q (.bl (if neg then !e else e)) H
theorem op_eqS {k : Nat} (hr : Room k X.A) : OpR X (compareOp .Eq) (rEqS X.K false) := by
  intro pins s σ H x y v u Q I rx ry h
  obtain ⟨d, e, r, hd, q⟩ := h
  have hu := hr.un
  exact (r.at_ I (A := X.A) (by omega) rx ry).1 X.prog X.w X.xe _ ⟨.bl e, H, I, rfl, q⟩
theorem op_neS {k : Nat} (hr : Room k X.A) : OpR X (compareOp .NotEq) (rEqS X.K true) := by
  intro pins s σ H x y v u Q I rx ry h
  obtain ⟨d, e, r, hd, q⟩ := h
  have hu := hr.un
  exact (r.at_ I (A := X.A) (by omega) rx ry).2.1 X.prog X.w X.xe _ ⟨.bl (!e), H, I, rfl, q⟩
/-- // by a number of at most 512 bits -/
def CDB (_ j : Int) : Prop := j ≠ 0 ∧ j.natAbs < 2 ^ 512
theorem op_fdivB : OpR X (binaryOp .FloorDiv) (rI CDB fun i j => .int (i.fdiv j)) := opI fun i j _ _ _ _ _ hc q => floordiv_int hc.1 q (.inl (PyProof.noPylong_of_log2 (by
  have h0 : j.natAbs ≠ 0 := by have := hc.1; omega
  have := (Nat.log2_lt h0).mpr hc.2
  omega)))
end
end L2

/-! ### xs[::-1]; a wished state behind a statement -/
namespace L2
open PySem PySem.Spec PyProof.Rows
section
variable {X : Cx} {e : Expr} {te : TE} {st : Expr} {ts : TO} {pos p2 : Pos}
end
section
variable {X : Cx} {st : Stmt} {t : TS}
/-- behind the statement stands what is wished, whatever way it went -/
def tMid (t : TS) : TS := fun D σ H => ∃ I : St → Hp → Prop, t { D with nx := I } σ H ∧ ∀ σ' H', I σ' H' → D.nx σ' H'
theorem ps_mid (h : PS X st t) : PS X st (tMid t) := fun pins s σ H D Iv ⟨J, h1, h2⟩ =>
  thn (h pins s σ H _ Iv h1) fun f s' hf => by
    cases f with
    | next => obtain ⟨σ', H', a, b⟩ := hf; exact ⟨σ', H', a, h2 _ _ b⟩
    | brk => exact hf
    | cont => exact hf
    | ret u => exact hf
end
end L2
/-! ### data: ints, lists, tuples, at any depth -/
namespace L2
open PySem PySem.Spec PyProof.Rows
inductive D where
  | i (n : Int) | l (xs : List D) | t (xs : List D)
mutual
/-- the value v is the datum -/
def Is (H : Hp) : D → V → Prop
  | .i n, v => v = .int n
  | .l xs, v => ∃ a vs, v = .ref a ∧ H a = some (.lst vs) ∧ Iss H xs vs
  | .t xs, v => ∃ a vs, v = .ref a ∧ H a = some (.tup vs) ∧ Iss H xs vs
def Iss (H : Hp) : List D → List V → Prop
  | [], vs => vs = []
  | x :: xs, vs => ∃ u us, vs = u :: us ∧ Is H x u ∧ Iss H xs us
end
theorem is_i {H : Hp} {n : Int} : Is H (.i n) (.int n) := by unfold Is; rfl
theorem is_l {H : Hp} {a : Addr} {xs : List D} {vs : List V} (h : H a = some (.lst vs)) (k : Iss H xs vs) : Is H (.l xs) (.ref a) := by unfold Is; exact ⟨a, vs, rfl, h, k⟩
theorem is_t {H : Hp} {a : Addr} {xs : List D} {vs : List V} (h : H a = some (.tup vs)) (k : Iss H xs vs) : Is H (.t xs) (.ref a) := by unfold Is; exact ⟨a, vs, rfl, h, k⟩
theorem of_i {H : Hp} {n : Int} {v : V} (h : Is H (.i n) v) : v = .int n := by unfold Is at h; exact h
theorem of_l {H : Hp} {xs : List D} {v : V} (h : Is H (.l xs) v) : ∃ a vs, v = .ref a ∧ H a = some (.lst vs) ∧ Iss H xs vs := by unfold Is at h; exact h
theorem of_t {H : Hp} {xs : List D} {v : V} (h : Is H (.t xs) v) : ∃ a vs, v = .ref a ∧ H a = some (.tup vs) ∧ Iss H xs vs := by unfold Is at h; exact h
theorem iss_nil {H : Hp} : Iss H [] [] := by unfold Iss; rfl
theorem iss_cons {H : Hp} {x : D} {xs : List D} {u : V} {us : List V} (h : Is H x u) (k : Iss H xs us) : Iss H (x :: xs) (u :: us) := by unfold Iss; exact ⟨u, us, rfl, h, k⟩
theorem of_cons {H : Hp} {x : D} {xs : List D} {vs : List V} (h : Iss H (x :: xs) vs) : ∃ u us, vs = u :: us ∧ Is H x u ∧ Iss H xs us := by unfold Iss at h; exact h
theorem of_nil {H : Hp} {vs : List V} (h : Iss H [] vs) : vs = [] := by unfold Iss at h; exact h
mutual
theorem Is.mono {H H' : Hp} (s : Same H H') : ∀ {d : D} {v : V}, Is H d v → Is H' d v
  | .i _, _, h => by rw [of_i h]; exact is_i
  | .l xs, _, h => by
    obtain ⟨a, vs, e, q, r⟩ := of_l h
    rw [e]
    exact is_l (s _ _ q) (Iss.mono s r)
  | .t xs, _, h => by
    obtain ⟨a, vs, e, q, r⟩ := of_t h
    rw [e]
    exact is_t (s _ _ q) (Iss.mono s r)
theorem Iss.mono {H H' : Hp} (s : Same H H') : ∀ {xs : List D} {vs : List V}, Iss H xs vs → Iss H' xs vs
  | [], _, h => by rw [of_nil h]; exact iss_nil
  | x :: xs, _, h => by
    obtain ⟨u, us, e, q, r⟩ := of_cons h
    rw [e]
    exact iss_cons (Is.mono s q) (Iss.mono s r)
end
theorem Iss.length {H : Hp} : ∀ {xs : List D} {vs : List V}, Iss H xs vs → vs.length = xs.length
  | [], _, h => by rw [of_nil h]; rfl
  | x :: xs, _, h => by
    obtain ⟨u, us, rfl, _, r⟩ := of_cons h
    rw [List.length_cons, List.length_cons, r.length]
theorem Iss.get {H : Hp} : ∀ {xs : List D} {vs : List V} {j : Nat} {x : D}, Iss H xs vs → xs[j]? = some x → ∃ v, vs[j]? = some v ∧ Is H x v
  | [], _, _, _, _, e => by simp at e
  | x :: xs, _, 0, _, h, e => by
    obtain ⟨u, us, rfl, q, _⟩ := of_cons h
    simp at e
    subst e
    exact ⟨u, rfl, q⟩
  | x :: xs, _, j + 1, _, h, e => by
    obtain ⟨u, us, rfl, _, r⟩ := of_cons h
    obtain ⟨v, e', k⟩ := r.get (j := j) (by simpa using e)
    exact ⟨v, by simpa using e', k⟩
theorem Iss.of_get {H : Hp} {xs : List D} {vs : List V} {j : Nat} {v : V} (h : Iss H xs vs) (e : vs[j]? = some v) : ∃ x, xs[j]? = some x ∧ Is H x v := by
  have hj : j < vs.length := (List.getElem?_eq_some_iff.mp e).1
  have hj' : j < xs.length := by rw [← h.length]; exact hj
  obtain ⟨u, e1, k⟩ := h.get (List.getElem?_eq_getElem hj')
  rw [e] at e1
  cases e1
  exact ⟨_, List.getElem?_eq_getElem hj', k⟩
theorem Iss.append {H : Hp} : ∀ {xs ys : List D} {vs ws : List V}, Iss H xs vs → Iss H ys ws → Iss H (xs ++ ys) (vs ++ ws)
  | [], _, _, _, h, k => by rw [of_nil h]; exact k
  | x :: xs, _, _, _, h, k => by
    obtain ⟨u, us, rfl, q, r⟩ := of_cons h
    exact iss_cons q (r.append k)
mutual
/-- may be compared -/
def Kin : D → D → Prop
  | .i _, .i _ => True
  | .l xs, .l ys => Kins xs ys
  | .t xs, .t ys => Kins xs ys
  | _, _ => False
def Kins : List D → List D → Prop
  | x :: xs, y :: ys => Kin x y ∧ Kins xs ys
  | _, _ => True
end
mutual
def eqD : D → D → Bool
  | .i a, .i b => decide (a = b)
  | .l xs, .l ys => eqDs xs ys
  | .t xs, .t ys => eqDs xs ys
  | _, _ => false
def eqDs : List D → List D → Bool
  | [], [] => true
  | x :: xs, y :: ys => eqD x y && eqDs xs ys
  | _, _ => false
end
mutual
def dep : D → Nat
  | .i _ => 0
  | .l xs => deps xs + 1
  | .t xs => deps xs + 1
def deps : List D → Nat
  | [] => 0
  | x :: xs => max (dep x) (deps xs)
end
mutual
theorem eqD_iff : ∀ {a b : D}, eqD a b = true ↔ a = b
  | .i a, .i b => by simp [eqD]
  | .i _, .l _ => by simp [eqD]
  | .i _, .t _ => by simp [eqD]
  | .l _, .i _ => by simp [eqD]
  | .l xs, .l ys => by simp [eqD, eqDs_iff (xs := xs) (ys := ys)]
  | .l _, .t _ => by simp [eqD]
  | .t _, .i _ => by simp [eqD]
  | .t _, .l _ => by simp [eqD]
  | .t xs, .t ys => by simp [eqD, eqDs_iff (xs := xs) (ys := ys)]
theorem eqDs_iff : ∀ {xs ys : List D}, eqDs xs ys = true ↔ xs = ys
  | [], [] => by simp [eqDs]
  | [], _ :: _ => by simp [eqDs]
  | _ :: _, [] => by simp [eqDs]
  | x :: xs, y :: ys => by simp [eqDs, eqD_iff (a := x) (b := y), eqDs_iff (xs := xs) (ys := ys)]
end
theorem eqD_self {a : D} : eqD a a = true := eqD_iff.mpr rfl
theorem eqDs_all : ∀ {xs ys : List D}, xs.length = ys.length → eqDs xs ys = (List.range xs.length).all fun j => eqD (xs.getD j (.i 0)) (ys.getD j (.i 0))
  | [], [], _ => by simp [eqDs]
  | x :: xs, y :: ys, h => by
    have ih := eqDs_all (xs := xs) (ys := ys) (by simpa using h)
    rw [eqDs, ih, List.length_cons, List.range_succ_eq_map]
    simp [List.all_map, Function.comp_def]
theorem eqDs_len {xs ys : List D} (h : xs.length ≠ ys.length) : eqDs xs ys = false := by
  cases e : eqDs xs ys with
  | false => rfl
  | true => exact absurd (congrArg List.length (eqDs_iff.mp e)) h
mutual
theorem Is.eqr {K : PySem.W.Frag} {H : Hp} : ∀ {d e : D} {v w : V} {n : Nat}, dep d ≤ n → Kin d e → Is H d v → Is H e w → EqR K H n v w (eqD d e)
  | .i a, .i b, _, _, n, _, _, h, k => by
    rw [of_i h, of_i k, eqD]
    exact EqR.int n a b
  | .l xs, .l ys, _, _, 0, hn, _, _, _ => absurd hn (by unfold dep; omega)
  | .l xs, .l ys, _, _, n + 1, hn, hk, h, k => by
    obtain ⟨a, vs, rfl, ha, ra⟩ := of_l h
    obtain ⟨b, ws, rfl, hb, rb⟩ := of_l k
    have hn' : deps xs ≤ n := by unfold dep at hn; omega
    have hk' : Kins xs ys := by unfold Kin at hk; exact hk
    have l1 := ra.length
    have l2 := rb.length
    rw [eqD]
    by_cases hl : xs.length = ys.length
    · rw [eqDs_all hl, ← l1]
      exact EqR.lists _ (SqL.of ha) (SqL.of hb) (by omega) fun j x y hx hy => Iss.eqr hn' hk' ra rb hx hy
    · rw [eqDs_len hl]
      exact EqR.lens (SqL.of ha) (SqL.of hb) (by omega)
  | .t xs, .t ys, _, _, 0, hn, _, _, _ => absurd hn (by unfold dep; omega)
  | .t xs, .t ys, _, _, n + 1, hn, hk, h, k => by
    obtain ⟨a, vs, rfl, ha, ra⟩ := of_t h
    obtain ⟨b, ws, rfl, hb, rb⟩ := of_t k
    have hn' : deps xs ≤ n := by unfold dep at hn; omega
    have hk' : Kins xs ys := by unfold Kin at hk; exact hk
    have l1 := ra.length
    have l2 := rb.length
    rw [eqD]
    have q := EqR.tuples (d := n) (fun j => eqD (xs.getD j (.i 0)) (ys.getD j (.i 0))) (SqT.of (K := K) ha) (SqT.of (K := K) hb) fun j x y hx hy => Iss.eqr hn' hk' ra rb hx hy
    by_cases hl : xs.length = ys.length
    · rw [eqDs_all hl]
      rw [l1, l2, ← hl, Nat.min_self] at q
      simpa using q
    · rw [eqDs_len hl]
      have z : (vs.length == ws.length) = false := by rw [l1, l2]; simpa using hl
      rw [z, Bool.and_false] at q
      exact q
  | .i _, .l _, _, _, _, _, hk, _, _ => by unfold Kin at hk; exact hk.elim
  | .i _, .t _, _, _, _, _, hk, _, _ => by unfold Kin at hk; exact hk.elim
  | .l _, .i _, _, _, _, _, hk, _, _ => by unfold Kin at hk; exact hk.elim
  | .l _, .t _, _, _, _, _, hk, _, _ => by unfold Kin at hk; exact hk.elim
  | .t _, .i _, _, _, _, _, hk, _, _ => by unfold Kin at hk; exact hk.elim
  | .t _, .l _, _, _, _, _, hk, _, _ => by unfold Kin at hk; exact hk.elim
theorem Iss.eqr {K : PySem.W.Frag} {H : Hp} : ∀ {xs ys : List D} {vs ws : List V} {n : Nat}, deps xs ≤ n → Kins xs ys → Iss H xs vs → Iss H ys ws → ∀ {j : Nat} {x y : V}, vs[j]? = some x → ws[j]? = some y →
    EqR K H n x y (eqD (xs.getD j (.i 0)) (ys.getD j (.i 0)))
  | [], _, _, _, _, _, _, h, _, _, _, _, e, _ => by rw [of_nil h] at e; simp at e
  | _ :: _, [], _, _, _, _, _, _, k, _, _, _, _, e => by rw [of_nil k] at e; simp at e
  | x :: xs, y :: ys, _, _, n, hn, hk, h, k, 0, u, w, e1, e2 => by
    obtain ⟨u', us, rfl, q, _⟩ := of_cons h
    obtain ⟨w', ws, rfl, q', _⟩ := of_cons k
    simp at e1 e2
    subst e1 e2
    have hk' : Kin x y ∧ Kins xs ys := by unfold Kins at hk; exact hk
    have hd : dep x ≤ n := by unfold deps at hn; omega
    exact Is.eqr (d := x) (e := y) hd hk'.1 q q'
  | x :: xs, y :: ys, _, _, n, hn, hk, h, k, j + 1, u, w, e1, e2 => by
    obtain ⟨u', us, rfl, _, r⟩ := of_cons h
    obtain ⟨w', ws, rfl, _, r'⟩ := of_cons k
    have hk' : Kin x y ∧ Kins xs ys := by unfold Kins at hk; exact hk
    have hd : deps xs ≤ n := by unfold deps at hn; omega
    have := Iss.eqr (K := K) hd hk'.2 r r' (j := j) (by simpa using e1) (by simpa using e2)
    simpa using this
end
/-! ### points -/
abbrev Pt := Int × Int
def pt (p : Pt) : D := .t [.i p.1, .i p.2]
/-! ### a list that grows -/
/-- without what stands at a -/
def hid (H : Hp) (a : Addr) : Hp := fun b => if b = a then none else H b
end L2
/-! ### what is newly laid, told by what is true of it -/
namespace L2
open PySem PySem.Spec PyProof.Rows
section
variable {X : Cx} {es : List Expr} {t : TA} {pos : Pos}
def New (H : Hp) (o : HO) (Q : VK) : Prop := ∀ p H2, H p = none → Same H H2 → H2 p = some o → Q (.ref p) H2
theorem New.at {H : Hp} {o : HO} {Q : VK} (q : New H o Q) {p : Addr} (np : H p = none) : Q (.ref p) (upd H p o) := q p _ np (Same.new np) upd_same
def tTupN (t : TA) : TE := fun σ H Q => t σ H fun xs H1 => xs.length ≤ sizeLine ∧ New H1 (.tup xs) Q
def tLstN (t : TA) : TE := fun σ H Q => t σ H fun xs H1 => xs.length ≤ sizeLine ∧ New H1 (.lst xs) Q
theorem pe_tupN {x1} (h : PA X es t) : PE X (.Tuple es x1 pos) (tTupN t) := by
  intro pins s σ H Q I hq
  refine wpAny_Tuple_spliced (thn (h pos pins s σ H _ I hq) fun us s1 ⟨xs, H1, I1, r, z, q⟩ => ⟨by rw [← r.length]; exact z, ?_⟩)
  refine ⟨.ref s1.heap.objs.size, upd H1 s1.heap.objs.size (.tup xs), I1.laid (t' := s1.toks) (fun b u e => Heap.get?_push_of_some _ e) (Nat.le_refl _) ?_, rfl, q.at (I1.hok.fresh (Nat.le_refl _))⟩
  exact ⟨z, us, r, ⟨_, Heap.get?_push_size _ rfl, rfl, _, rfl⟩⟩
theorem pe_lstN (h : PA X es t) : PE X (.List es pos) (tLstN t) := by
  intro pins s σ H Q I hq
  refine wpAny_List_spliced (thn (h pos pins s σ H _ I hq) fun us s1 ⟨xs, H1, I1, r, z, q⟩ => ⟨by rw [← r.length]; exact z, ?_⟩)
  refine ⟨.ref s1.heap.objs.size, upd H1 s1.heap.objs.size (.lst xs), I1.laid (t' := s1.toks) (fun b u e => Heap.get?_push_of_some _ e) (Nat.le_refl _) ?_, rfl, q.at (I1.hok.fresh (Nat.le_refl _))⟩
  exact ⟨z, us, 0, r, Heap.get?_push_size _ rfl⟩
theorem CallR.imp {f : Value} {r r' : List V → Hp → VK → Prop} (h : CallR X f r) (k : ∀ xs H Q, r' xs H Q → r xs H Q) : CallR X f r' := fun pins s σ H xs us Q I rs q => h pins s σ H xs us Q I rs (k _ _ _ q)
/-- xs[i], a datum's item -/
theorem ix_D {α : Type} {xs : List α} {i : Int} {j : Nat} {x : α} (e : i = j) (h : xs[j]? = some x) : atI xs i = some x := by rw [e]; exact atI_nat h
theorem Iss.atI {H : Hp} {xs : List D} {vs : List V} {i : Int} {x : D} (h : Iss H xs vs) (e : L2.atI xs i = some x) : ∃ u, L2.atI vs i = some u ∧ Is H x u := by
  unfold L2.atI at e ⊢
  rw [h.length]
  cases q : ixN xs.length i with
  | none => rw [q] at e; cases e
  | some j =>
    rw [q] at e
    obtain ⟨u, e1, k⟩ := h.get (j := j) e
    exact ⟨u, e1, k⟩
theorem ix_listN : IxR X (fun x y H Q => ∃ xs i d, Is H (.l xs) x ∧ y = .int i ∧ atI xs i = some d ∧ ∀ u, Is H d u → Q u H) := by
  intro value slice pins s σ H x y v u Q I rx ry h hs
  obtain ⟨xs, i, d, hx, ey, e, q⟩ := h
  obtain ⟨a, vs, rfl, ha, ra⟩ := of_l hx
  obtain ⟨z, ez, hz⟩ := ra.atI e
  exact ix_list value slice pins s σ H (.ref a) y v u Q I rx ry ⟨a, vs, i, z, rfl, ey, SqL.of ha, ez, q z hz⟩ hs
theorem ix_tupN : IxR X (fun x y H Q => ∃ xs i d, Is H (.t xs) x ∧ y = .int i ∧ atI xs i = some d ∧ ∀ u, Is H d u → Q u H) := by
  intro value slice pins s σ H x y v u Q I rx ry h hs
  obtain ⟨xs, i, d, hx, ey, e, q⟩ := h
  obtain ⟨a, vs, rfl, ha, ra⟩ := of_t hx
  obtain ⟨z, ez, hz⟩ := ra.atI e
  exact ix_tup value slice pins s σ H (.ref a) y v u Q I rx ry ⟨a, vs, i, z, rfl, ey, SqT.of ha, ez, q z hz⟩ hs
/-- len(xs) -/
theorem call_lenN : CallR X (.builtin "len") (fun vs H Q => ∃ v xs, vs = [v] ∧ (Is H (.l xs) v ∨ Is H (.t xs) v) ∧ Q (.int xs.length) H) :=
  call_len_seq.imp fun vs H Q ⟨v, xs, ev, hx, q⟩ => by
    subst ev
    rcases hx with hx | hx
    · obtain ⟨a, ws, rfl, ha, ra⟩ := of_l hx
      exact ⟨a, ws, rfl, .inl (SqL.of ha), by rw [ra.length]; exact q⟩
    · obtain ⟨a, ws, rfl, ha, ra⟩ := of_t hx
      exact ⟨a, ws, rfl, .inr (SqT.of ha), by rw [ra.length]; exact q⟩
end
end L2
/-! ### exceptions of own classes: raised in a def, passed on, caught -/
namespace L2
open PySem PySem.Spec PyProof.Rows
section
variable {P : Program} {w : World} {H : Hp} {h : Heap} {a : Addr} {o : HO}
theorem ObjOk.obj (x : ObjOk P w H h a o) : ∃ ob, h.get? a = some ob := by
  cases o with
  | lst xs => obtain ⟨_, _, _, _, e⟩ := x; exact ⟨_, e⟩
  | tup xs => obtain ⟨_, _, _, _, e, _⟩ := x; exact ⟨_, e⟩
  | dK kvs => obtain ⟨_, _, _, _, _, _, _, e, _⟩ := x; exact ⟨_, e⟩
  | dT kvs => obtain ⟨_, _, _, _, _, _, _, e, _⟩ := x; exact ⟨_, e⟩
  | set S n => obtain ⟨_, _, _, _, e, _⟩ := x; exact ⟨_, e⟩
  | ins C dx fs => obtain ⟨_, _, _, e, _⟩ := x; exact ⟨_, e⟩
  | own y => exact x
  | xd fs => obtain ⟨_, ⟨_, _, _, e, _⟩, _⟩ := x; exact ⟨_, e⟩
  | rng lo hi => obtain ⟨_, _, _, e⟩ := x; exact ⟨_, e⟩
  | frz ob u => exact ⟨_, x.1⟩
  | tbl ps => exact ⟨_, x⟩
  | met f y => exact ⟨_, x⟩
  | ext φ => exact x.2.1
end
/-- how an exception of an own class lies behind a call: B is the heap at the raise, without the frames -/
def CX1 (P : Program) (w : World) : CXT := fun outer H s E e s' =>
  ∃ (a C : Addr) (H' : Hp) (B : Heap) (a0 : Value), e = .ref a ∧ E (.ref C) none H' ∧ s'.os = s.os ∧ AllBare s'.gens ∧ Un (frs outer) [] H H' s.heap s'.heap ∧ HOk P w H' B ∧ H' a = none ∧
    Heap.FlyingW B outer a (.ref C) a0 s'.heap ∧ (∀ b o, s.heap.get? b = some o → H b = none → b ∉ frs outer → B.get? b = some o) ∧ (∀ b o, s.heap.get? b = some o → b ∉ frs outer → ∃ o', B.get? b = some o')
/-- an exception of class C that is made here reaches what this body wants of exceptions -/
def Raises (X : Cx) (E : XK) : Prop := ∀ (pins : List (Addr × Obj)) (σ : St) (H : Hp) (s : Shared) (h' : Heap) (e C : Addr) (args : List Value), Inv X pins σ H s → Heap.MadeExcOf s.heap h' e (.ref C) args → E (.ref C) none H → X.xe (.ref e) { s with heap := h' }
theorem passE0 {X : Cx} {P : Program} {w : World} : Passes (CX1 P w) X E0 := fun _ _ _ _ _ _ _ ⟨_, _, _, _, _, _, z, _⟩ => z.elim
section
variable {X : Cx} {pins : List (Addr × Obj)} {σ : St} {H H' : Hp} {s s' : Shared} {B h' : Heap} {l : List Env}
theorem un_fly (u : Un (frs l) [] H H' s.heap s'.heap) (fl : s'.heap.FunFrames B l) (kB : ∀ b o, s.heap.get? b = some o → H b = none → b ∉ frs l → B.get? b = some o) (tB : ∀ b o, s.heap.get? b = some o → b ∉ frs l → ∃ o', B.get? b = some o')
    (st : B.StaysIn h') (up : s'.heap.UpToSlots h') : Un (frs l) [] H H' s.heap h' where
  keep := fun b o e n hb _ => st b o (kB b o e n hb)
  slot := fun b o e n hb hx => by
    obtain ⟨sl, e1⟩ := u.slot b o e n hb hx
    obtain ⟨_, o', e2, d⟩ := fl.mem hb
    rw [e1] at e2
    cases e2
    obtain ⟨sl', e3⟩ := up b _ e1 d
    exact ⟨sl', e3⟩
  free := u.free
  there := fun b o e hx => by
    by_cases hb : b ∈ frs l
    · obtain ⟨_, o', e2, d⟩ := fl.mem hb
      obtain ⟨sl', e3⟩ := up b _ e2 d
      exact ⟨_, e3⟩
    · obtain ⟨o', e2⟩ := tB b o e hb
      exact ⟨o', st b o' e2⟩
  tups := u.tups
  frzs := u.frzs
  tbls := u.tbls
theorem Inv.nstk (I : Inv X pins σ H s) {b : Addr} {o : Obj} (e : X.s₀.heap.get? b = some o) (hb : b ∉ X.fs) : b ∉ frs X.stack := fun z => by
  rcases List.mem_cons.mp (I.stkSub b z) with q | q
  · exact absurd q (Nat.ne_of_lt (Nat.lt_of_lt_of_le (Heap.lt_size e) I.ok.above))
  · exact hb q
theorem frs_in {env : Env} {b : Addr} (he : env ∈ l) (hf : env.frame = some b) : b ∈ frs l := List.mem_filterMap.mpr ⟨env, he, hf⟩
theorem Inv.hidden (I : Inv X pins σ H s) : HOk X.prog X.w H (PySem.W.hideAll s.heap (frs X.stack)) := fun a o e => by
  refine (I.hok a o e).stay (fun b u hb q => PySem.W.hideAll_get _ q fun z => ?_) (fun _ q => q) fun _ _ q => q
  have n := I.stkFree b z
  rcases hb with rfl | hb
  · rw [n] at e; cases e
  · rw [n] at hb; cases hb
/-- the frame at hand is on top of the stack, nothing is walked from outside -/
structure Fnc (X : Cx) : Prop where
  ex : X.ex = []
  stk : X.stack = X.env :: X.outer
  fr : X.env.frame = some X.env.locals
theorem CX1.mk {E : XK} {e C : Addr} {a0 : Value} (F : Fnc X) (I : Inv X pins σ H s) (os : s'.os = s.os) (bare : AllBare s'.gens) (u : Un (frs X.stack) [] H H' s.heap s'.heap) (hB : HOk X.prog X.w H' B) (hE : E (.ref C) none H') (hn : H' e = none)
    (fl : Heap.FlyingW B X.outer e (.ref C) a0 s'.heap) (kB : ∀ b o, s.heap.get? b = some o → H b = none → b ∉ frs X.stack → B.get? b = some o) (tB : ∀ b o, s.heap.get? b = some o → b ∉ frs X.stack → ∃ o', B.get? b = some o') :
    CX1 X.prog X.w X.outer X.H₀ X.s₀ E (.ref e) s' := by
  have J : Inv X pins σ H' s' := I.call' (ch := []) os u (hB.kept fl.1) bare fun _ z => absurd z (by simp)
  have ub : Un X.fs X.ex X.H₀ H' X.s₀.heap s'.heap := J.base
  have nx : ∀ b : Addr, b ∉ X.ex := fun b => by rw [F.ex]; simp
  rw [F.ex] at ub
  refine ⟨e, C, H', B, a0, rfl, hE, J.os, J.bare, ub, hB, hn, fl, fun b o q n hb => ?_, fun b o q hb => ?_⟩
  · exact kB b o (I.base.keep b o q n hb (nx b)) (I.base.free b o q n (nx b)) (I.nstk q hb)
  · obtain ⟨o', q'⟩ := I.base.there b o q (nx b)
    exact tB b o' q' (I.nstk q hb)
theorem raises_of {CX : CXT} {E : XK} (F : Fnc X) (hcx : CX = CX1 X.prog X.w) (hxe : X.xe = fun e s' => wpAny (model X.prog X.w) X.A (leaving X.env e) (fun _ s'' => CX X.outer X.H₀ X.s₀ E e s'') (fun e' s'' => CX X.outer X.H₀ X.s₀ E e' s'') s') : Raises X E := by
  intro pins σ H s h' e C args I hx hE
  subst hcx
  rw [hxe]
  have fb := I.stack
  have hl : s.heap.FunFrames (PySem.W.hideAll s.heap (frs X.stack)) (X.env :: X.outer) := by
    rw [F.stk] at fb ⊢
    exact PySem.W.funFrames_hide fb fun env he b hb => frs_in he hb
  refine wpAny_leaves_madeW (base := PySem.W.hideAll s.heap (frs X.stack)) (by rw [I.ok.frames, F.stk]) F.fr (fun b o q => PySem.W.of_hideAll _ q) hl hx fun h'' t fl _ _ up => ?_
  have kB : ∀ b o, s.heap.get? b = some o → b ∉ frs X.stack → (PySem.W.hideAll s.heap (frs X.stack)).get? b = some o := fun b o q n => PySem.W.hideAll_get _ q n
  have hn : H e = none := by
    cases q : H e with
    | none => rfl
    | some o =>
      obtain ⟨ob, z⟩ := (I.hok e o q).obj
      rw [hx.new] at z
      cases z
  have u0 : Un (frs X.stack) [] H H s.heap h' := Un.kept hx.keeps
  have fl' : h'.FunFrames (PySem.W.hideAll s.heap (frs X.stack)) X.stack := by
    rw [F.stk]
    rw [F.stk] at hl
    exact hl.of_keeps fun b o q _ => ⟨o, hx.keeps b o q, rfl⟩
  have u : Un (frs X.stack) [] H H s.heap h'' := un_fly (s' := { s with heap := h' }) u0 fl' (fun b o q _ n => kB b o q n) (fun b o q n => ⟨o, kB b o q n⟩) fl.1 up
  exact CX1.mk (s' := { s with heap := h'' }) F I rfl I.bare u I.hidden hE hn fl (fun b o q _ n => kB b o q n) (fun b o q n => ⟨o, kB b o q n⟩)
theorem passes_of {CX : CXT} {E : XK} (F : Fnc X) (hcx : CX = CX1 X.prog X.w) (hxe : X.xe = fun e s' => wpAny (model X.prog X.w) X.A (leaving X.env e) (fun _ s'' => CX X.outer X.H₀ X.s₀ E e s'') (fun e' s'' => CX X.outer X.H₀ X.s₀ E e' s'') s') : Passes (CX1 X.prog X.w) X E := by
  intro pins σ H s e s' I hc
  subst hcx
  rw [hxe]
  obtain ⟨a, C, H', B, a0, rfl, hE, os, bare, u, hB, hn, fl, kB, tB⟩ := hc
  refine wpAny_leaves_onW (by rw [I.ok.frames, F.stk]) F.fr (by rw [← F.stk]; exact fl) fun h'' fl'' up => ?_
  exact CX1.mk (s' := { s' with heap := h'' }) F I os bare (un_fly u fl.2.2.1 kB tB fl''.1 up) hB hE hn fl'' kB tB
end
/-- THE RULE for a def that may raise -/
theorem Fun.okx {P : Program} {w : World} {K : PySem.W.Frag} {mg : Str → Option Value} {base : Heap} {x qual : Str} {st : Stmt} {f : Addr} {fd : FuncData} {N ps : List Str} {k : Nat} {sp : Sp} (F : Fun K x qual st f fd) (S : FnScope N ps (defScope st)) (len : ∀ vs H Q E, sp vs H Q E → vs.length = ps.length)
    (hbody : ∀ (cdv : Value) (A : Around) (outer : List Env) (s : Shared) (H : Hp) (vs : List V) (Q : VK) (E : XK), Room k (A.deeper (envOfC qual (defScope st) s.heap.objs.size f cdv)) → sp vs H Q E →
      Raises (cxOf (CX1 P w) P w K mg base N qual (defScope st) f cdv A outer s H E) E → Passes (CX1 P w) (cxOf (CX1 P w) P w K mg base N qual (defScope st) f cdv A outer s H E) E →
      ∃ t, PSs (cxOf (CX1 P w) P w K mg base N qual (defScope st) f cdv A outer s H E) (defBody st) t ∧ t { nx := fun _ H' => Q .non H', rt := Q } (start N vs) H) : FnOk P w K mg base (CX1 P w) (k + 1) f fd ps sp := by
  obtain ⟨oc, od, kV, doc, pm, an, cdv, ct, osl, rfl, lk, hcd⟩ := F.ex
  refine fn_of lk hcd S len fun A outer s H vs Q E hr hsp => ?_
  have Fn : Fnc (cxOf (CX1 P w) P w K mg base N qual (defScope st) f cdv A outer s H E) := ⟨rfl, rfl, rfl⟩
  exact hbody cdv A outer s H vs Q E hr hsp (raises_of Fn rfl rfl) (passes_of Fn rfl rfl)
/-- .. with a try in it: the frame is on top -/
theorem Fun.oky {P : Program} {w : World} {K : PySem.W.Frag} {mg : Str → Option Value} {base : Heap} {x qual : Str} {st : Stmt} {f : Addr} {fd : FuncData} {N ps : List Str} {k : Nat} {sp : Sp} (F : Fun K x qual st f fd) (S : FnScope N ps (defScope st)) (len : ∀ vs H Q E, sp vs H Q E → vs.length = ps.length)
    (hbody : ∀ (cdv : Value) (A : Around) (outer : List Env) (s : Shared) (H : Hp) (vs : List V) (Q : VK) (E : XK), Room k (A.deeper (envOfC qual (defScope st) s.heap.objs.size f cdv)) → sp vs H Q E →
      Fnc (cxOf CX0 P w K mg base N qual (defScope st) f cdv A outer s H E).nox →
      ∃ t, PSs (cxOf CX0 P w K mg base N qual (defScope st) f cdv A outer s H E).nox (defBody st) t ∧ t { nx := fun _ H' => Q .non H', rt := Q } (start N vs) H) : FnOk P w K mg base CX0 (k + 1) f fd ps sp :=
  F.ok S len fun cdv A outer s H vs Q E hr hsp => hbody cdv A outer s H vs Q E hr hsp ⟨rfl, rfl, rfl⟩

/-! ### raise C(e, ..) -/
section
variable {X : Cx} {pos np cpos : Pos} {x : Str} {C : Addr} {E : XK} {e : Expr} {es : List Expr} {t : TA}
abbrev bmV : List Value := [.type "ValueError", .type "Exception", .type "BaseException", .type "object"]
theorem exc_obj {K : PySem.W.Frag} {h : Heap} {bmB : List Value} {newId : String} (Y : K.In h) (q : PySem.W.excIn K C bmB newId = true) :
    ∃ bm N nm qn bs hdct sn sub ab col dd k0 k1 k2 k3 k5 mN, h.get? C = some (excClassObj nm qn C N bs bm hdct sn sub ab col dd k0 k1 k2 k3 k5 newId) ∧ h.Ns N mN ∧ mN "__init__" = none ∧ OwnTail h bmB bm := by
  unfold PySem.W.excIn at q
  split at q
  case h_2 => cases q
  rename_i dd cd sl ho
  split at q
  case h_2 => cases q
  rename_i C' bm k0 k1 k2 k3 n k5 hm hs
  rw [Bool.and_eq_true, Bool.and_eq_true, Bool.and_eq_true, Bool.and_eq_true, Bool.and_eq_true, beq_iff_eq, beq_iff_eq, beq_iff_eq, Bool.not_eq_true'] at q
  obtain ⟨⟨⟨⟨⟨e1, e2⟩, e3⟩, e4⟩, e5⟩, e6⟩ := q
  subst e1 e2
  rcases cd with ⟨nm, bs, mro, ns, qn, hd, sn, sub, ab, col, del⟩
  dsimp only at hm e3 e5 e6
  subst hm e3
  have hsl : sl = #[k0, k1, k2, k3, some (.builtin n), k5] := by
    rcases sl with ⟨l⟩
    have hs' : l = _ := hs
    rw [hs']
  subst hsl
  exact ⟨bm, ns, nm, qn, bs, hd, sn, sub, ab, col, dd, k0, k1, k2, k3, k5, _, Y _ _ ho, .of_isNs (PySem.W.isNs_of_in Y e5), PySem.W.nsMap_none_of_in Y e5 e6, PySem.W.tail_of_in Y e4⟩
def tRaise (C : Addr) (E : XK) (t : TA) : TS := fun _ σ H => t σ H fun vs H1 => vs.length ≤ sizeLine ∧ E (.ref C) none H1
theorem ps_raise (hR : Raises X E) (hg : Gl X x) (hm : X.mg x = some (.ref C)) (hC : PySem.W.excIn X.K C bmV "ValueError.__new__" = true) (hc : X.calm = true) (ha : PA X (e :: es) t) (hdb : (x == ("__debug__" : Str)) = false := by decide)
    (he : starEach (e :: es) X.env = (false, eval e X.env) :: starEach es X.env := by rfl) (hpl : (backTo cpos (starEach es X.env)).any (·.1) = false := by rfl) :
    PS X (.Raise (some (.Call (.Name x np) (e :: es) [] cpos)) none pos) (tRaise C E t) := by
  intro pins s σ H D I h
  have hcl := I.ok.mod.kin
  obtain ⟨bm', N', nm', qn', bs', hdct', sn', sub', ab', col', dd', k0', k1', k2', k3', k5', mN', hCb, hNb, hnib, TLb⟩ := exc_obj hcl hC
  refine wpAny_Raise_call_subT (q := qn') (N := N') (bs := bs') (bm := bm') (hdct := hdct') (sn := sn') (sub := sub') (ab := ab') (col := col') (dd := dd') (k0 := k0') (k1 := k1') (k2 := k2') (k3 := k3') (k5 := k5') (nm := nm') (mN := mN') PySem.F.excBase_ValueError
    (TLb.hasType (by decide +kernel)) (I.ok.hd hc) (by rw [he]; show (false || (backTo cpos (starEach es X.env)).any (·.1)) = false; rw [hpl]; rfl) hnib (ld_glob I hg hm ⟨rfl, ?_⟩ hdb)
  have h2 := ha cpos pins s σ H _ I h
  rw [he] at h2 ⊢
  refine Calls.evalArgs_plain (thn h2 fun us s1 ⟨vs, H1, I1, r, hz, hE⟩ => ⟨rfl, by rw [← r.length]; exact hz, I1.bk _ _ hCb, hNb.keeps I1.bk, TLb.keeps I1.bk, fun h' e' hx => ?_⟩)
  exact hR pins σ H1 s1 h' e' C us I1 hx hE
end

/-! ### f-strings of ints -/
section
variable {X : Cx} {pos : Pos} {e v : Expr} {es : List Expr} {te : TE}
abbrev TJ := Str → St → Hp → VK → Prop
def PJ (X : Cx) (es : List Expr) (t : TJ) : Prop := ∀ (out : Str) (pins : List (Addr × Obj)) (s : Shared) (σ : St) (H : Hp) (Q : VK), Inv X pins σ H s → t out σ H Q → wpAny (model X.prog X.w) X.A (joinParts out (evalEach es X.env)) (EP X pins σ Q) X.xe s
def tJn : TJ := fun out _ H Q => out.length ≤ sizeLine ∧ Q (.str out) H
def tJc (te : TE) (tr : TJ) : TJ := fun out σ H Q => te σ H fun x H1 => ∃ y, x = .str y ∧ (out ++ y).length ≤ sizeLine ∧ tr (out ++ y) σ H1 Q
theorem pj_nil : PJ X [] tJn := fun out pins s σ H Q I h => joinParts_nil ⟨.str out, H, I.tok _, ⟨_, rfl⟩, h.2⟩ h.1
theorem pj_cons {tr : TJ} (he : PE X e te) (hr : PJ X es tr) : PJ X (e :: es) (tJc te tr) := by
  intro out pins s σ H Q I h
  show wpAny _ _ (joinParts out (eval e X.env :: evalEach es X.env)) _ _ _
  refine joinParts_cons (thn (he pins s σ H _ I h) fun u s1 ⟨x, H1, I1, r1, y, ex, hz, q1⟩ => ?_)
  subst ex
  obtain ⟨tk, rfl⟩ := r1
  exact ⟨hz, hr (out ++ y) pins s1 σ H1 Q I1 q1⟩
theorem pe_fstr {v2 : Expr} {t : TJ} (h : PJ X (e :: v2 :: es) t) : PE X (.JoinedStr (e :: v2 :: es) pos) (fun σ H Q => t Str.empty σ H Q) := fun pins s σ H Q I hq => JoinedStr_many (h Str.empty pins s σ H Q I hq)
theorem pe_fint (hv : PE X v te) : PE X (.FormattedValue v (-1) none pos) (fun σ H Q => te σ H fun x H1 => ∃ i, x = .int i ∧ i.natAbs.log2 < 1920 ∧ Q (.str (toString i)) H1) := by
  intro pins s σ H Q I h
  refine FormattedValue_plain (thn (hv pins s σ H _ I h) fun u s1 ⟨x, H1, I1, r1, i, ex, hz, q1⟩ => ?_)
  subst ex
  obtain ⟨tk, rfl⟩ := r1
  exact formatField_int_small hz ⟨.str _, H1, I1.tok _, ⟨_, rfl⟩, q1⟩
end

/-! ### f(e, ..), f a name that holds a def -/
section
variable {X : Cx} {CX : CXT} {ps : List Str} {sp : Sp} {E : XK} {x : Str} {p pos : Pos} {e : Expr} {es : List Expr} {t : TA} {i : Nat}
end
end L2
/-! ### isinstance of an exception that is held -/
namespace L2
open PySem PySem.Calls PyProof.Rows PySem.W Builtin Builtin.ObjectAttr Builtin.Getset_descriptor
/-- what is known of a class of exceptions -/
structure XC (K : Frag) (C : Addr) : Prop where
  cl : (clsIn K C).isSome = true
  ga : findIn K (.ref C) "__getattribute__" = some (some (.builtin "BaseException.__getattribute__"))
  gt : findIn K (.ref C) "__getattr__" = some none
  ca : findIn K (.ref C) "__class__" = some (some (.builtin "object.__class__"))
  gn : specialIn K (.builtin "object.__class__") "__get__" = some (some (.builtin "getset_descriptor.__get__"))
  tk : takesIn K (.builtin "object.__class__") = some true
  ob : mroIn K C (.type "object") = some true
  be : mroIn K C (.type "BaseException") = some true
section
variable {prog : Program} {w : World} {A : Around} {E : Value → Shared → Prop} {K : Frag} {x C : Addr} {h : Heap} {g : Array GenState} {d : Drawn} {t : Nat} {os : OsState}
theorem xc_look {M : Model} {o : Obj} (e : h.get? x = some o) (c : o.cls = .ref C) : Looks M h (typeOf (.ref x)) (.ref C) := c ▸ (Looks.ld e).andThen .now
theorem xc_get {R : Result → Shared → Prop} {tp : Value} (Y : K.In h) (F : XC K C) (LT : ∀ M : Model, Looks M h (typeOf (.ref x)) (.ref C)) (q : R (.ok (.ret (.ref C))) ⟨h, g, d, t, os⟩) :
    codeAny (model prog w) A (.call (.builtin "getset_descriptor.__get__") ⟨[.builtin "object.__class__", .ref x, tp], []⟩) R ⟨h, g, d, t, os⟩ := by
  have L0 := LT (model prog w)
  have L1 := looks_mroIn (M := model prog w) Y F.ob
  refine codeAny_call_builtin KF.slot_gs.plain KF.entry_gs (KF.slot_gs.check _ _ _ _ _ _ _ _ KF.type_class (KF.args_gs _ _ _) ?_)
  unfold Builtin.«getset_descriptor.__get__» descrGet
  rw [dga_obj]
  refine wpAny_bind (wpAny_pure ?_)
  unfold descrGetter descrCheckInstance descrNameAndClass isInstance
  simp only [KF.owner_class]
  repeat lk
  refine ⟨Code.quiet_builtin _ (by decide +kernel), codeAny_builtin KF.entry_class ?_⟩
  unfold Builtin.«object.__class__» shownTypeOf
  repeat lk
  exact q
theorem xc_find {M : Model} (Y : K.In h) (F : XC K C) : Looks M h (find (.ref x) (.ref C) "__class__") (.bind (.builtin "getset_descriptor.__get__") (.builtin "object.__class__")) := by
  have L1 := looks_findIn (M := M) Y F.ca
  have L2 : Looks M h (getOf (some (.builtin "object.__class__"))) (some (.builtin "getset_descriptor.__get__")) := looks_specialIn Y F.gn
  have L3 := looks_takesIn (M := M) Y F.tk
  exact L1.andThen (L2.andThen ((show Looks M h (dataDescriptor? (some (.builtin "object.__class__")) (some (.builtin "getset_descriptor.__get__"))) (some (.builtin "getset_descriptor.__get__", .builtin "object.__class__")) from L3.andThen .now).andThen (Looks.tag .now)))
theorem xc_entry {tk : Tok} {Q : Fin → Shared → Prop} (Y : K.In h) (F : XC K C) (LT : ∀ M : Model, Looks M h (typeOf (.ref x)) (.ref C)) (q : Q (.done (.ret (.ref C))) ⟨h, g, d, t, os⟩) :
    wpAny (model prog w) A (Builtin.«object.__getattribute__» ⟨[.ref x, .str "__class__" tk], []⟩) Q E ⟨h, g, d, t, os⟩ := by
  have L0 := LT (model prog w)
  have L1 := xc_find (x := x) (M := model prog w) Y F
  refine wpAny_bind (wpAny_pure (wpAny_bind (wpAny_pure (wpAny_bind (L0.at (wpAny_bind (L1.at ?_)))))))
  show wpAny _ _ (holding [.builtin "object.__class__"] (call (.builtin "getset_descriptor.__get__") [.builtin "object.__class__", .ref x, .ref C]) >>= ret) _ _ _
  exact wpAny_bind (wpAny_holding (wpAny_call (xc_get Y F LT (wpAny_pure q))))
theorem xc_check {nameV : Value} {M : Model} {Q : Unit → Shared → Prop} (Y : K.In h) (F : XC K C) (LT : ∀ M : Model, Looks M h (typeOf (.ref x)) (.ref C)) (q : Q () ⟨h, g, d, t, os⟩) :
    wpAny M A (checkBuiltinCall "BaseException.__getattribute__" ⟨[.ref x, nameV], []⟩) Q E ⟨h, g, d, t, os⟩ := by
  have e1 : builtinKind "BaseException.__getattribute__" = some .slot := by decide +kernel
  have e2 : splitId "BaseException.__getattribute__" = some ("BaseException", "__getattribute__") := by decide +kernel
  have ha := PySem.F.args_bexc_ga (.ref x) nameV
  have L0 := LT M
  have L1 := looks_mroIn (M := M) Y F.be
  simp only [checkBuiltinCall, e1, e2]
  refine wpAny_bind ?_
  unfold isInstance
  repeat (first | lk | wp_step)
  exact q
theorem xc_attr {Q : Option Value → Shared → Prop} (Y : K.In h) (F : XC K C) (LT : ∀ M : Model, Looks M h (typeOf (.ref x)) (.ref C)) (q : Q (some (.ref C)) ⟨h, g, d, t + 1, os⟩) : wpAny (model prog w) A (getAttr? (.ref x) "__class__") Q E ⟨h, g, d, t, os⟩ := by
  have L0 := LT (model prog w)
  have L1 := looks_findIn (M := model prog w) Y F.ga
  have L2 := looks_findIn (M := model prog w) Y F.gt
  have e2 : (Value.builtin "BaseException.__getattribute__" == Value.builtin "object.__getattribute__") = false := by decide +kernel
  have e1 : (onTheHeap (Value.ref C) && Value.builtin "BaseException.__getattribute__" == Value.builtin "object.__getattribute__") = false := by rw [e2]; rfl
  have f3 := PySem.F.excAttr_ValueError.ga.bind (.ref x)
  unfold getAttr? getAttrBy? getAttrBy
  refine wpAny_bind (wpAny_mkText (wpAny_bind (wpAny_attempt (wpAny_holding (wpAny_bind (L0.at (wpAny_bind (L1.at ?_))))))))
  dsimp only
  rw [e1]
  simp only [Bool.false_eq_true, if_false]
  repeat (any_goals (first | assumption | with_reducible refine L2.at ?_ | wp_step))
  refine codeAny_call_builtin PySem.F.excAttr_ValueError.ga.plain PySem.F.entry_bexc_ga (xc_check Y F LT (xc_entry Y F LT ?_))
  repeat (any_goals (first | assumption | lk | wp_step))
theorem kitx_exc (F : XC K C) : KitX K (.ref x) (.ref C) (fun h => ∃ o, h.get? x = some o ∧ o.cls = .ref C) where
  ty := fun _ _ _ ⟨_, e, c⟩ => xc_look e c
  it := fun _ _ Y _ => by
    have z := F.cl
    unfold clsIn at z
    split at z
    · rename_i ho
      intro A' Q' E' s' k q
      unfold isType loadHead
      exact wpAny_bind (wpAny_loadPart (k _ _ (Y _ _ ho)) (wpAny_pure q))
    · cases z
  ne := fun h tp dd its n sl Y htp => by
    have z := F.cl
    unfold clsIn at z
    split at z
    · rename_i ho
      refine Bool.eq_false_iff.mpr fun q => ?_
      have e : C = tp := Value.ref.inj (beq_iff_eq.mp q)
      subst e
      have y := (Y _ _ ho).symm.trans htp
      cases y
    · cases z
  ca := fun {_ _ _ _ _ s} Y ⟨_, e, c⟩ k => by
    obtain ⟨hh, g, d, t, os⟩ := s
    exact xc_attr Y F (fun M => xc_look e c) k
end
/-- the exception at a, of the class at C -/
def excO (C a : Addr) : HO := .ext fun h => ∃ o, h.get? a = some o ∧ o.cls = .ref C
theorem excO_ok {P : Program} {w : World} {H : Hp} {h : Heap} {a C : Addr} (e : ∃ o, h.get? a = some o ∧ o.cls = .ref C) : ObjOk P w H h a (excO C a) :=
  ⟨e, e.elim fun o q => ⟨o, q.1⟩, fun _ _ ⟨o, q, c⟩ k => ⟨o, k o q, c⟩⟩
/-- a class, as isinstance takes it -/
def clsV : V → Option Value
  | .ty n => some (.type n)
  | .ref c => some (.ref c)
  | _ => none
theorem clsV_rel {v : V} {c u : Value} (e : clsV v = some c) (r : RelV v u) : u = c := by
  cases v <;> first | (cases e; exact r) | cases e
section
variable {X : Cx}
theorem call_isx : CallR X (.builtin "isinstance") (fun xs H Q => ∃ a C v c b, xs = [.ref a, v] ∧ H a = some (excO C a) ∧ XC X.K C ∧ clsV v = some c ∧ kitOne X.K (.ref C) c = some b ∧ Q (.bl b) H) := by
  intro pins s σ H xs us Q I r h
  obtain ⟨a, C, v, c, b, rfl, ha, F, ev, e, q⟩ := h
  obtain ⟨u, w', rfl, ru, rw'⟩ := vals2 r
  obtain rfl : u = Value.ref a := ru
  obtain rfl := clsV_rel ev rw'
  exact kia_one (kitx_exc F) I.kIn (I.hok a _ ha).1 e (fun z => nomatch z) fun tk => ⟨.bl b, H, I.tok tk, rfl, q⟩
theorem call_isxK {K : Frag} (hK : X.K = K) : CallR X (.builtin "isinstance") (fun xs H Q => ∃ a C v c b, xs = [.ref a, v] ∧ H a = some (excO C a) ∧ XC K C ∧ clsV v = some c ∧ kitOne K (.ref C) c = some b ∧ Q (.bl b) H) := hK ▸ call_isx
theorem clsV_vals : ∀ {vs : List V} {cs its : List Value}, vs.mapM clsV = some cs → Vals vs its → its = cs
  | [], _, _, e, .nil => by cases e; rfl
  | v :: vs, cs, _, e, .cons r t => by
    rw [List.mapM_cons] at e
    obtain ⟨c, e1, e⟩ := Option.bind_eq_some_iff.mp e
    obtain ⟨cs', e2, e⟩ := Option.bind_eq_some_iff.mp e
    cases e
    rw [clsV_rel e1 r, clsV_vals e2 t]
/-- isinstance(e, (A, B, ..)) -/
theorem call_isxs : CallR X (.builtin "isinstance") (fun xs H Q => ∃ a C p vs cs b, xs = [.ref a, .ref p] ∧ H a = some (excO C a) ∧ XC X.K C ∧ H p = some (.tup vs) ∧ vs.mapM clsV = some cs ∧ kitAny X.K (.ref C) cs = some b ∧ Q (.bl b) H) := by
  intro pins s σ H xs us Q I r h
  obtain ⟨a, C, p, vs, cs, b, rfl, ha, F, hp, ev, e, q⟩ := h
  obtain ⟨u, w', rfl, ru, rw'⟩ := vals2 r
  obtain rfl : u = Value.ref a := ru
  obtain rfl : w' = Value.ref p := rw'
  obtain ⟨_, its, rv, ⟨oc, od, dt, sl⟩, ho, hc, n, hd⟩ := (show ObjOk X.prog X.w H s.heap p (.tup vs) from I.hok p _ hp)
  simp only at hc hd
  subst hc hd
  obtain rfl := clsV_vals ev rv
  exact kia_tup (kitx_exc F) I.kIn (I.hok a _ ha).1 ho e (fun z => nomatch z) fun tk => ⟨.bl b, H, I.tok tk, rfl, q⟩
theorem call_isxsK {K : Frag} (hK : X.K = K) : CallR X (.builtin "isinstance") (fun xs H Q => ∃ a C p vs cs b, xs = [.ref a, .ref p] ∧ H a = some (excO C a) ∧ XC K C ∧ H p = some (.tup vs) ∧ vs.mapM clsV = some cs ∧ kitAny K (.ref C) cs = some b ∧ Q (.bl b) H) := hK ▸ call_isxs
end
end L2
/-! ### try: .. except C as n: .. -/
namespace L2
open PySem PySem.Spec PyProof.Rows PySem.W
/-- the context within a try's body; within an except's suite -/
abbrev Cx.inTry (X : Cx) (pn : List (Addr × Obj)) (z : Value → Shared → Prop) : Cx := { X with pn := pn, xe := z }
abbrev Cx.inSuite (X : Cx) (e : Addr) : Cx := { X with A := X.A.mark (some (.ref e)), calm := false, xe := fun _ _ => False }
/-- all names forgotten -/
def nones (σ : St) : St := σ.map fun _ => none
theorem nones_none {σ : St} {i : Nat} {v : V} (h : (nones σ)[i]? = some (some v)) : False := by
  unfold nones at h
  rw [List.getElem?_map] at h
  cases e : σ[i]? with
  | none => rw [e] at h; cases h
  | some a => rw [e] at h; cases h
section
variable {X : Cx} {pins pn : List (Addr × Obj)} {σ : St} {H H' : Hp} {s s' : Shared} {z : Value → Shared → Prop} {e : Addr}
theorem Inv.toTry (I : Inv X pins σ H s) : Inv (X.inTry (X.pn ++ pins) z) [] σ H s :=
  ⟨⟨I.ok.mod, I.ok.kind, I.ok.glob, I.ok.blt, I.ok.above, I.ok.inj, I.ok.has, I.ok.cab, I.ok.hd, I.ok.frames, I.ok.stk, I.ok.exf, I.ok.bs, I.ok.bsz, I.ok.noex, I.ok.exfs, I.ok.funs, I.ok.frf⟩,
    I.os, I.bare, I.base, I.loc, I.cell, I.free, I.freeC, fun p hp => I.pin p (by rw [List.append_nil] at hp; exact hp), I.hok, I.len⟩
theorem Inv.unTry {pins' : List (Addr × Obj)} (I : Inv (X.inTry (X.pn ++ pins) z) pins' σ H s) : Inv X pins σ H s :=
  ⟨⟨I.ok.mod, I.ok.kind, I.ok.glob, I.ok.blt, I.ok.above, I.ok.inj, I.ok.has, I.ok.cab, I.ok.hd, I.ok.frames, I.ok.stk, I.ok.exf, I.ok.bs, I.ok.bsz, I.ok.noex, I.ok.exfs, I.ok.funs, I.ok.frf⟩,
    I.os, I.bare, I.base, I.loc, I.cell, I.free, I.freeC, fun p hp => I.pin p (List.mem_append_left _ hp), I.hok, I.len⟩
theorem Inv.toSuite (I : Inv X pins σ H s) : Inv (X.inSuite e) pins σ H s :=
  ⟨⟨I.ok.mod, I.ok.kind, I.ok.glob, I.ok.blt, I.ok.above, I.ok.inj, I.ok.has, I.ok.cab, fun q => absurd q Bool.false_ne_true, I.ok.frames, I.ok.stk, I.ok.exf, I.ok.bs, I.ok.bsz, I.ok.noex, I.ok.exfs, I.ok.funs, I.ok.frf⟩,
    I.os, I.bare, I.base, I.loc, I.cell, I.free, I.freeC, I.pin, I.hok, I.len⟩
theorem Inv.unSuite (hd : X.calm = true → X.A.handled = none) (I : Inv (X.inSuite e) pins σ H s) : Inv X pins σ H s :=
  ⟨⟨I.ok.mod, I.ok.kind, I.ok.glob, I.ok.blt, I.ok.above, I.ok.inj, I.ok.has, I.ok.cab, hd, I.ok.frames, I.ok.stk, I.ok.exf, I.ok.bs, I.ok.bsz, I.ok.noex, I.ok.exfs, I.ok.funs, I.ok.frf⟩,
    I.os, I.bare, I.base, I.loc, I.cell, I.free, I.freeC, I.pin, I.hok, I.len⟩
theorem SP.unTry {D : Ends} {f : Flow} (h : SP (X.inTry (X.pn ++ pins) z) [] D f s') : SP X pins D f s' := by
  cases f with
  | next => obtain ⟨σ', H', I, q⟩ := h; exact ⟨σ', H', I.unTry, q⟩
  | brk => obtain ⟨σ', H', I, q⟩ := h; exact ⟨σ', H', I.unTry, q⟩
  | cont => obtain ⟨σ', H', I, q⟩ := h; exact ⟨σ', H', I.unTry, q⟩
  | ret u => obtain ⟨v, σ', H', I, r, q⟩ := h; exact ⟨v, σ', H', I.unTry, r, q⟩
/-- the frame's names change anyhow -/
theorem Inv.goes {h' : Heap} {m' : Str → Option Value} {t' : Nat} (I : Inv X pins σ H s) (hn : h'.Ns X.env.locals m') (hs : Heap.SameBut X.env.locals s.heap h') : Inv X pins (nones σ) H { s with heap := h', toks := t' } := by
  have lt : ∀ {b : Addr} {o : Obj}, X.s₀.heap.get? b = some o → b ≠ X.env.locals := fun e => Nat.ne_of_lt (Nat.lt_of_lt_of_le (Heap.lt_size e) I.ok.above)
  refine ⟨I.ok, I.os, I.bare, ⟨fun b o e n hb hx => ?_, fun b o e n hb hx => ?_, I.base.free, fun b o e hx => ?_, I.base.tups, I.base.frzs, I.base.tbls⟩, ⟨m', hn, fun i x v _ e2 _ => (nones_none e2).elim⟩, fun y c e => ?_, I.free, I.freeC, fun p hp => ?_, fun b ob e => ?_, ?_⟩
  · exact (hs.2 b (lt e)).trans (I.base.keep b o e n hb hx)
  · obtain ⟨sl, e1⟩ := I.base.slot b o e n hb hx
    exact ⟨sl, (hs.2 b (lt e)).trans e1⟩
  · obtain ⟨o', e1⟩ := I.base.there b o e hx
    exact ⟨o', (hs.2 b (lt e)).trans e1⟩
  · obtain ⟨w', q⟩ := I.cell y c e
    exact ⟨w', q.sameBut hs (I.cne y c e)⟩
  · obtain ⟨e, n, ne, nf, d⟩ := I.pin p hp
    exact ⟨(hs.2 p.1 ne).trans e, n, ne, nf, d⟩
  · refine (I.hok b ob e).stay (fun c v hc q => (hs.2 c fun ec => ?_).trans q) (fun _ q => q) fun _ _ q => q
    have fr := I.free
    rw [← ec] at fr
    rcases hc with rfl | hc
    · rw [fr] at e; cases e
    · rw [fr] at hc; cases hc
  · unfold nones
    rw [List.length_map]
    exact I.len
theorem Inv.nones (I : Inv X pins σ H s) : Inv X pins (L2.nones σ) H s := I.weak (by unfold L2.nones; rw [List.length_map]) fun i v e => (nones_none e).elim
/-- an exception that is held is tracked -/
theorem Inv.hold {C : Addr} (I : Inv X pins σ H s) (hn : H e = none) (hL : e ≠ X.env.locals) (hnew : X.s₀.heap.get? e = none ∧ (∀ x c, X.env.cells.lookup x = some c → c ≠ e) ∧ (∀ p ∈ X.pn ++ pins, p.1 ≠ e)) (ho : ∃ o, s.heap.get? e = some o ∧ o.cls = .ref C) :
    Inv X pins σ (upd H e (excO C e)) s := by
  obtain ⟨n0, nc, np⟩ := hnew
  have ne0 : ∀ {b : Addr} {o : Obj}, X.s₀.heap.get? b = some o → b ≠ e := fun {b o} q z => by rw [z, n0] at q; cases q
  have neh : ∀ {b : Addr} {o : HO}, H b = some o → b ≠ e := fun q => ne_of_none q hn
  refine ⟨I.ok, I.os, I.bare, ⟨I.base.keep, I.base.slot, fun b o q n hx => ?_, I.base.there, fun b xs q => ?_, fun b o u q => ?_, fun b ps q => ?_⟩, I.loc, I.cell, ?_, fun x c q => ?_, fun p hp => ?_, fun b o q => ?_, I.len⟩
  · rw [upd_ne (ne0 q)]; exact I.base.free b o q n hx
  · have z := I.base.tups b xs q
    rw [upd_ne (neh z)]; exact z
  · have z := I.base.frzs b o u q
    rw [upd_ne (neh z)]; exact z
  · obtain ⟨more, z⟩ := I.base.tbls b ps q
    exact ⟨more, by rw [upd_ne (neh z)]; exact z⟩
  · rw [upd_ne (Ne.symm hL)]; exact I.free
  · rw [upd_ne (nc x c q)]; exact I.freeC x c q
  · obtain ⟨a1, a2, a3⟩ := I.pin p hp
    exact ⟨a1, by rw [upd_ne (np p hp)]; exact a2, a3⟩
  · by_cases hb : b = e
    · subst hb
      rw [upd_same] at q
      cases q
      exact excO_ok ho
    · rw [upd_ne hb] at q
      exact (I.hok b o q).stay (fun _ _ _ q => q) (fun c q => by rw [upd_ne (neh q)]; exact q) fun c xs q => by rw [upd_ne (neh q)]; exact q
end
/-- D with all names forgotten behind a suite -/
def Ends.forget (D : Ends) (n : Nat) : Ends := { nx := fun _ H => D.nx (List.replicate n none) H, rt := D.rt, bk := fun _ H => D.bk (List.replicate n none) H, ct := fun _ H => D.ct (List.replicate n none) H }
theorem nones_rep {σ : St} : nones σ = List.replicate σ.length none := by
  unfold nones
  induction σ with
  | nil => rfl
  | cons a r ih => rw [List.map_cons, ih, List.length_cons, List.replicate_succ]
def tTry (K : Frag) (hc : Addr) (i n : Nat) (tb : XK → TS) (ts : TS) : TS := fun D σ H => ∃ E : XK, tb E D σ H ∧
  ∀ (C e : Addr) (H' : Hp), E (.ref C) none H' → H' e = none → exmOne K (.ref C) (.ref hc) = some true ∧ ts (D.forget n) ((List.replicate n none).set i (some (.ref e))) (upd H' e (excO C e))
theorem ps_try {X : Cx} {x n : Str} {hc : Addr} {i len : Nat} {body suite : List Stmt} {b₀ : Stmt} {tb : XK → TS} {ts : TS} {np hpos pos : Pos} (F : Fnc X) (hl : X.N.length = len) (hN : X.N.Nodup) (hi : X.N[i]? = some n) (hx : Loc X.env.scope n) (hloc : X.env.kindOf n = some .local) (hg : Gl X x) (hm : X.mg x = some (.ref hc))
    (hb : ∀ (E : XK) pn z, Passes (CX1 X.prog X.w) (X.inTry pn z) E → PSs (X.inTry pn z) body (tb E)) (hs : ∀ e, PSs (X.inSuite e) (b₀ :: suite) ts) (hf : X.fn n = true ∨ X.env.scope.names.lookup n = some .local := by first | exact .inl rfl | exact .inr rfl) (hdb : (x == ("__debug__" : Str)) = false := by decide) :
    PS X (.Try body [.ExceptHandler (some (.Name x np)) (some n) (b₀ :: suite) hpos] [] [] pos) (tTry X.K hc i len tb ts) := by
  intro pins s σ H D I ⟨E, hw, hE⟩
  have hP : Passes (CX1 X.prog X.w) (X.inTry (X.pn ++ pins) fun e s' => ∃ σ' H s, Inv X pins σ' H s ∧ CX1 X.prog X.w X.stack H s E e s') E := fun pins' σ' H1 s1 e s' J q => ⟨σ', H1, s1, J.unTry, q⟩
  refine wpAny_Try_except (wpAny_mono (hb E _ _ hP [] s σ H D I.toTry hw) (fun f s1 q => ?_) fun ev s1 q => ?_)
  · have q' := SP.unTry q
    cases f with
    | next => exact wpAny_execs_nil q'
    | ret u => exact q'
    | brk => exact q'
    | cont => exact q'
  obtain ⟨σ1, H1, s0, I0, a, C, H', B, a0, rfl, hEE, os, bare, u, hB, hn, fl, kB, tB⟩ := q
  obtain ⟨hmt, hts⟩ := hE C a H' hEE hn
  have nfr : a ∉ frs X.stack := fun z => by
    obtain ⟨_, o, e1, d⟩ := fl.2.2.1.mem z
    obtain ⟨oe, vs, e2, _, dd, _⟩ := fl.first
    rw [e1] at e2
    cases e2
    exact d _ dd
  have at_ : ∀ {h5 : Heap}, B.StaysIn h5 → s1.heap.UpToSlots h5 → Inv X pins σ1 H' { s1 with heap := h5 } := fun {h5} st up =>
    I0.call' (s' := { s1 with heap := h5 }) (ch := []) os (un_fly u fl.2.2.1 kB tB st up) (hB.kept st) bare fun _ z => absurd z (by simp)
  have bn := fl.2.1
  have new0 : s0.heap.get? a = none := by
    cases q : s0.heap.get? a with
    | none => rfl
    | some o =>
      obtain ⟨o', z⟩ := tB a o q nfr
      rw [bn] at z
      cases z
  have hnL : a ≠ X.env.locals := fun z => nfr (by rw [F.stk, z]; exact frs_in (List.mem_cons_self ..) F.fr)
  have new : X.s₀.heap.get? a = none ∧ (∀ x c, X.env.cells.lookup x = some c → c ≠ a) ∧ (∀ p ∈ X.pn ++ pins, p.1 ≠ a) := by
    refine ⟨?_, fun y c q z => ?_, fun p hp z => ?_⟩
    · cases q : X.s₀.heap.get? a with
      | none => rfl
      | some o =>
        obtain ⟨o', z⟩ := I0.base.there a o q (by rw [F.ex]; simp)
        rw [new0] at z
        cases z
    · obtain ⟨v, o, q1, _⟩ := I0.cell y c q
      rw [z, new0] at q1
      cases q1
    · have q1 := (I0.pin p hp).1
      rw [z, new0] at q1
      cases q1
  refine wpAny_looks_onW (by rw [I.ok.frames, F.stk]) F.fr (by rw [← F.stk]; exact fl) fun h4 held4 up4 => ?_
  refine wpAny_landsW held4 fun h5 fl5 up5 => ?_
  have I5 : Inv (X.inSuite a) pins σ1 H' { s1 with heap := h5 } := (at_ fl5.1 (up4.trans up5)).toSuite
  refine wpAny_handleBy_cons (codeAny_handlers_test (ld_glob I5 hg hm ?_ hdb)) (by intro q; cases q)
  obtain ⟨ob, ho, hcl⟩ := fl5.there
  refine (exm_one (K := X.K) I5.kIn (xc_look ho hcl) hmt).here ?_
  refine codeAny_handlers_suite_as ?_
  refine lands_againW fl5 fun h6 fl6 up6 => ?_
  obtain ⟨ob6, ho6, hcl6⟩ := fl6.there
  have I6 : Inv X pins (nones σ1) (upd H' a (excO C a)) { s1 with heap := h6 } := ((at_ fl6.1 ((up4.trans up5).trans up6)).nones).hold hn hnL new ⟨ob6, ho6, hcl6⟩
  have es : (nones σ1) = List.replicate len none := by rw [nones_rep, I0.len, hl]
  rw [es] at I6
  refine store_ok (X := X.inSuite a) (v := .ref a) I6.toSuite hN hi hx rfl (fun s7 I7 => ?_) hf
  refine wpAny_mono (hs a pins s7 _ _ _ I7 hts) (fun f s8 q => ?_) fun _ _ z => z.elim
  have go : ∀ {σ8 : St} {H8 : Hp}, Inv (X.inSuite a) pins σ8 H8 s8 → (∀ s9, Inv X pins (List.replicate len none) H8 s9 → SP X pins D f s9) →
      wpAny (model X.prog X.w) X.A (do bindName X.env n .none; unbindBehindTheSuite X.env n hpos) (fun _ s9 => SP X pins D f s9) X.xe s8 := fun {σ8 H8} I8 k => by
    obtain ⟨m, hns, _⟩ := I8.loc
    refine wpAny_nameGoes hloc hns (by rw [I.ok.kind]; rfl) fun h9 m9 hn9 hs9 => ?_
    have J := (Inv.unSuite I.ok.hd I8).goes (t' := s8.toks + 1) hn9 hs9
    have e8 : (nones σ8) = List.replicate len none := by rw [nones_rep, I8.len]; exact congrArg (fun k => List.replicate k none) hl
    rw [e8] at J
    exact k _ J
  cases f with
  | next => obtain ⟨σ8, H8, I8, q⟩ := q; exact go I8 fun s9 J => ⟨_, _, J, q⟩
  | brk => obtain ⟨σ8, H8, I8, q⟩ := q; exact go I8 fun s9 J => ⟨_, _, J, q⟩
  | cont => obtain ⟨σ8, H8, I8, q⟩ := q; exact go I8 fun s9 J => ⟨_, _, J, q⟩
  | ret u => obtain ⟨v, σ8, H8, I8, r, q⟩ := q; exact go I8 fun s9 J => ⟨v, _, _, J, r, q⟩
end L2
/-! ### for x in range(hi, lo, -1) -/
namespace L2
open PySem PySem.Spec PyProof.Rows
section
variable {X : Cx} {tg : Expr}
end
end L2
/-! ### any thing as a degree, and its bounds -/
namespace L2
open PySem PySem.Spec PyProof.Rows
def Within (lo hi : Int) (v : V) : Prop := ∃ i, v = .int i ∧ lo ≤ i ∧ i ≤ hi
end L2
/-! ### less than -/
namespace PySem.SeqAt
open AutoSeq1 (wpAny_loadPart')
open MeetsSeq MeetsSeq2 MeetsSeq3 SeqRoads2
def LtAt (A : Around) (s : Shared) (y x : Value) (b : Bool) : Prop :=
  ∀ (prog : Program) (w : World) (E : Value → Shared → Prop) (Q : Value → Shared → Prop), Q (.bool b) s → wpAny (model prog w) A (richCompare .Lt y x) Q E s
/-- by the first place that differs -/
def lex (e f : Nat → Bool) (m n : Nat) : Nat → Nat → Bool
  | 0, _ => decide (m < n)
  | k + 1, i => if e i = true then lex e f m n k (i + 1) else f i
theorem lt_loopAt (l b : Addr) (items items2 : Array Value) (n n2 : Nat) (dd dd2 : Option Addr) (sl sl2 : Array (Option Value)) (e f : Nat → Bool) (k : Nat) :
    ∀ i : Nat, min items.size items2.size - i = k → Meets (Builtin.«list.__eq__.loop» ⟨[.ref l, .ref b, rawInt i, rawInt 0], []⟩)
      (fun A R s => s.heap.get? l = some { cls := .type "list", dict := dd, data := .seq items n, slots := sl } ∧ s.heap.get? b = some { cls := .type "list", dict := dd2, data := .seq items2 n2, slots := sl2 } ∧
        (∀ j (h1 : j < items.size) (h2 : j < items2.size), EqAt A.in1 s items[j] items2[j] (e j)) ∧ (∀ j (h1 : j < items.size) (h2 : j < items2.size), e j = false → LtAt A.in1 s items[j] items2[j] (f j)) ∧
        R (.ok (.ret (.bool (lex e f items.size items2.size k i)))) s) := by
  induction k with
  | zero =>
    intro i hk prog w A R s h
    obtain ⟨hp, g, d, tk, os⟩ := s; obtain ⟨hl, hb, he, hf, h⟩ := h
    wp_walk using wpAny_loadPart' hl, wpAny_loadPart' hb
    rcases (by omega : items.size ≤ i ∨ (i < items.size ∧ items2.size ≤ i)) with q | ⟨q1, q2⟩
    · have hi1 : items[((i : Nat) : Int).toNat]? = none := by simp; omega
      rw [hi1]
      wp_walk using wpAny_loadPart' hl, wpAny_loadPart' hb
      exact h
    · have hi1 : items[((i : Nat) : Int).toNat]? = some items[i] := by simp [q1]
      have hi2 : items2[((i : Nat) : Int).toNat]? = none := by simp; omega
      rw [hi1, hi2]
      wp_walk using wpAny_loadPart' hl, wpAny_loadPart' hb
      exact h
  | succ k ih =>
    intro i hk prog w A R s h
    obtain ⟨hp, g, d, tk, os⟩ := s; obtain ⟨hl, hb, he, hf, h⟩ := h
    wp_walk using wpAny_loadPart' hl, wpAny_loadPart' hb
    have hlt : i < items.size := by omega
    have hlt2 : i < items2.size := by omega
    have hi1 : items[((i : Nat) : Int).toNat]? = some items[i] := by simp [hlt]
    have hi2 : items2[((i : Nat) : Int).toNat]? = some items2[i] := by simp [hlt2]
    have hc : ((i : Int) + 1) = ((i + 1 : Nat) : Int) := by push_cast; rfl
    unfold lex at h
    rw [hi1, hi2]
    refine wpAny_bind (he i hlt hlt2 prog w _ _ ?_)
    cases hb' : e i with
    | true =>
      rw [hb', if_pos rfl] at h
      wp_walk
      rw [hc]
      exact ⟨plainId_quiet plain_eq_loop _, codeAny_builtin entry_eq_loop (by
        rw [Around.under_plainId plain_eq_loop _]
        exact ih (i + 1) (by omega) prog w A R _ ⟨hl, hb, he, hf, h⟩)⟩
    | false =>
      rw [hb', if_neg (by simp)] at h
      wp_walk using wpAny_loadPart' hl, wpAny_loadPart' hb
      rw [hi1, hi2]
      refine wpAny_bind (hf i hlt hlt2 hb' prog w _ _ ?_)
      wp_walk
      exact h
theorem list_ltAt (l b : Addr) (items items2 : Array Value) (n n2 : Nat) (dd dd2 : Option Addr) (sl sl2 : Array (Option Value)) (e f : Nat → Bool) :
    Meets (Builtin.«list.__lt__» ⟨[.ref l, .ref b], []⟩)
      (fun A R s => s.heap.get? l = some { cls := .type "list", dict := dd, data := .seq items n, slots := sl } ∧ s.heap.get? b = some { cls := .type "list", dict := dd2, data := .seq items2 n2, slots := sl2 } ∧
        (∀ j (h1 : j < items.size) (h2 : j < items2.size), EqAt A.in1 s items[j] items2[j] (e j)) ∧ (∀ j (h1 : j < items.size) (h2 : j < items2.size), e j = false → LtAt A.in1 s items[j] items2[j] (f j)) ∧
        R (.ok (.ret (.bool (lex e f items.size items2.size (min items.size items2.size) 0)))) s) := by
  intro prog w A R s h
  obtain ⟨hp, g, d, tk, os⟩ := s; obtain ⟨hl, hb, he, hf, h⟩ := h
  have f3 := AutoSeq1.sub_list_list
  wp_walk using wpAny_loadPart' hl, wpAny_loadPart' hb
  exact ⟨plainId_quiet plain_eq_loop _, codeAny_builtin entry_eq_loop (by
    rw [Around.under_plainId plain_eq_loop _]
    exact lt_loopAt l b items items2 n n2 dd dd2 sl sl2 e f _ 0 rfl prog w A R _ ⟨hl, hb, he, hf, by simpa using h⟩)⟩
theorem tuple_ltAt (l b : Addr) (items items2 : Array Value) (n n2 : Nat) (dd dd2 : Option Addr) (sl sl2 : Array (Option Value)) (e f : Nat → Bool) :
    Meets (Builtin.«tuple.__lt__» ⟨[.ref l, .ref b], []⟩)
      (fun A R s => s.heap.get? l = some { cls := .type "tuple", dict := dd, data := .seq items n, slots := sl } ∧ s.heap.get? b = some { cls := .type "tuple", dict := dd2, data := .seq items2 n2, slots := sl2 } ∧
        (∀ j (h1 : j < items.size) (h2 : j < items2.size), EqAt A.in1 s items[j] items2[j] (e j)) ∧ (∀ j (h1 : j < items.size) (h2 : j < items2.size), e j = false → LtAt A.in1 s items[j] items2[j] (f j)) ∧
        R (.ok (.ret (.bool (lex e f items.size items2.size (min items.size items2.size) 0)))) s) :=
  .of_wp fun prog w A R s h => by
    obtain ⟨hp, g, d, tk, os⟩ := s; obtain ⟨hl, hb, he, hf, h⟩ := h
    have f2 := AutoSeq1.sub_tuple_tuple
    have hZ : (items.toList.zip items2.toList).length = min items.size items2.size := by simp
    wp_walk using wpAny_loadPart' hl, wpAny_loadPart' hb, wpAny_forIn_list _ (fun rest b s' => b.1 = none ∧ s' = ⟨hp, g, d, tk, os⟩ ∧ ∃ i, rest = (items.toList.zip items2.toList).drop i ∧ i ≤ min items.size items2.size ∧
      R (.ok (.ret (.bool (lex e f items.size items2.size (min items.size items2.size - i) i)))) ⟨hp, g, d, tk, os⟩) _
    case turn =>
      rintro ⟨y, x⟩ rest b s' ⟨hb', rfl, i, hz, hile, hR⟩
      have hlt : i < (items.toList.zip items2.toList).length := by
        rcases Nat.lt_or_ge i (items.toList.zip items2.toList).length with h' | h'
        · exact h'
        · rw [List.drop_of_length_le h'] at hz; cases hz
      have hm : i < min items.size items2.size := hZ ▸ hlt
      have h1 : i < items.size := Nat.lt_of_lt_of_le hm (Nat.min_le_left _ _)
      have h2 : i < items2.size := Nat.lt_of_lt_of_le hm (Nat.min_le_right _ _)
      rw [List.drop_eq_getElem_cons hlt] at hz
      injection hz with hyx hrest
      have hy : y = items[i] := by have := congrArg Prod.fst hyx; simpa using this
      have hx : x = items2[i] := by have := congrArg Prod.snd hyx; simpa using this
      subst hy hx
      rw [show min items.size items2.size - i = (min items.size items2.size - (i + 1)) + 1 by omega, lex] at hR
      refine wpAny_bind (he i h1 h2 prog w _ _ ?_)
      cases hy : e i with
      | true =>
        rw [hy, if_pos rfl] at hR
        wp_walk
        exact ⟨rfl, rfl, i + 1, hrest, by omega, hR⟩
      | false =>
        rw [hy, if_neg (by simp)] at hR
        rw [if_pos (show (!false) = true from rfl)]
        refine wpAny_bind (wpAny_rule ?_)
        refine wpAny_bind (hf i h1 h2 hy prog w _ _ ?_)
        wp_walk
        exact ⟨_, rfl, hR⟩
    case fin =>
      rintro ⟨b1, b2⟩ s' ⟨hb', rfl, i, hz, hile, hR⟩
      simp only at hb'
      subst hb'
      have hi : i = min items.size items2.size := by
        rcases Nat.lt_or_ge i (items.toList.zip items2.toList).length with h' | h'
        · rw [List.drop_eq_getElem_cons h'] at hz; cases hz
        · omega
      subst hi
      rw [Nat.sub_self] at hR
      wp_walk
      exact ⟨_, rfl, hR⟩
    case h =>
      exact ⟨rfl, rfl, 0, rfl, Nat.zero_le _, by simpa using h⟩
section
variable {A : Around} {s : Shared}
theorem LtAt.int_int (i : Int) (t : Tok) (j : Int) (u : Tok) : LtAt A s (.int i t) (.int j u) (decide (i < j)) := fun prog w E Q h => wpAny_lt_int h
theorem LtAt.lists {l b : Addr} {items items2 : Array Value} {e f : Nat → Bool} (hl : s.heap.IsList l items) (hb : s.heap.IsList b items2) (hu : A.units < cLine)
    (he : ∀ j (h1 : j < items.size) (h2 : j < items2.size), EqAt A.in1 s items[j] items2[j] (e j)) (hf : ∀ j (h1 : j < items.size) (h2 : j < items2.size), e j = false → LtAt A.in1 s items[j] items2[j] (f j)) :
    LtAt A s (.ref l) (.ref b) (lex e f items.size items2.size (min items.size items2.size) 0) := fun prog w E Q h => by
  obtain ⟨⟨cls, dd, data, sl⟩, ho, hc, n, hd⟩ := id hl
  obtain ⟨⟨cls2, dd2, data2, sl2⟩, ho2, hc2, n2, hd2⟩ := id hb
  simp only at hc hd hc2 hd2
  subst hc hd hc2 hd2
  exact richCompare_meets_room (op := .Lt) ⟨_, ho, rfl⟩ ⟨_, ho2, rfl⟩ F.slot_list_lt F.entry_list_lt (F.args_list_lt_2 _ _) (list_ltAt l b items items2 n n2 dd dd2 sl sl2 e f)
    ⟨ho, ho2, he, hf, show Value.bool (lex e f items.size items2.size (min items.size items2.size) 0) ≠ Value.notImplemented ∧ Q (.bool (lex e f items.size items2.size (min items.size items2.size) 0)) s from ⟨(fun x => nomatch x), h⟩⟩ hu
theorem LtAt.tuples {l b : Addr} {items items2 : Array Value} {e f : Nat → Bool} (hl : s.heap.IsTuple l items) (hb : s.heap.IsTuple b items2) (hu : A.units < cLine)
    (he : ∀ j (h1 : j < items.size) (h2 : j < items2.size), EqAt A.in1 s items[j] items2[j] (e j)) (hf : ∀ j (h1 : j < items.size) (h2 : j < items2.size), e j = false → LtAt A.in1 s items[j] items2[j] (f j)) :
    LtAt A s (.ref l) (.ref b) (lex e f items.size items2.size (min items.size items2.size) 0) := fun prog w E Q h => by
  obtain ⟨⟨cls, dd, data, sl⟩, ho, hc, n, hd⟩ := id hl
  obtain ⟨⟨cls2, dd2, data2, sl2⟩, ho2, hc2, n2, hd2⟩ := id hb
  simp only at hc hd hc2 hd2
  subst hc hd hc2 hd2
  exact richCompare_meets_room (op := .Lt) ⟨_, ho, rfl⟩ ⟨_, ho2, rfl⟩ F.slot_tuple_lt F.entry_tuple_lt (F.args_tuple_lt_2 _ _) (tuple_ltAt l b items items2 n n2 dd dd2 sl sl2 e f)
    ⟨ho, ho2, he, hf, show Value.bool (lex e f items.size items2.size (min items.size items2.size) 0) ≠ Value.notImplemented ∧ Q (.bool (lex e f items.size items2.size (min items.size items2.size) 0)) s from ⟨(fun x => nomatch x), h⟩⟩ hu
end
end PySem.SeqAt
/-! ### < of ints, lists, tuples at any depth -/
namespace L2
open PySem PySem.Spec PyProof.Rows
/-- what < tells, d deep -/
inductive LtR (K : PySem.W.Frag) (H : Hp) : Nat → V → V → Bool → Prop where
  | int (d : Nat) (i j : Int) : LtR K H d (.int i) (.int j) (decide (i < j))
  | lists {d : Nat} {a b : Addr} {xs ys : List V} (es fs : Nat → Bool) (h1 : SqL K H a xs) (h2 : SqL K H b ys) (he : ∀ (j : Nat) x y, xs[j]? = some x → ys[j]? = some y → EqR K H d x y (es j)) (hf : ∀ (j : Nat) x y, xs[j]? = some x → ys[j]? = some y → es j = false → LtR K H d x y (fs j)) :
    LtR K H (d + 1) (.ref a) (.ref b) (SeqAt.lex es fs xs.length ys.length (min xs.length ys.length) 0)
  | tuples {d : Nat} {a b : Addr} {xs ys : List V} (es fs : Nat → Bool) (h1 : SqT K H a xs) (h2 : SqT K H b ys) (he : ∀ (j : Nat) x y, xs[j]? = some x → ys[j]? = some y → EqR K H d x y (es j)) (hf : ∀ (j : Nat) x y, xs[j]? = some x → ys[j]? = some y → es j = false → LtR K H d x y (fs j)) :
    LtR K H (d + 1) (.ref a) (.ref b) (SeqAt.lex es fs xs.length ys.length (min xs.length ys.length) 0)
section
variable {X : Cx} {pins : List (Addr × Obj)} {σ : St} {H : Hp} {s : Shared}
theorem rel_at {xs : List V} {is : List Value} {j : Nat} (r : Vals xs is) (q : j < is.toArray.size) : ∃ x, xs[j]? = some x ∧ RelV x is.toArray[j] := by
  have l := r.length
  have q' : j < is.length := by simpa using q
  have hx : xs[j]? = some xs[j] := List.getElem?_eq_getElem (by omega)
  obtain ⟨u, e, ru⟩ := r.get hx
  refine ⟨_, hx, ?_⟩
  have g : is.toArray[j] = u := by
    rw [List.getElem?_eq_getElem q'] at e
    simpa using Option.some.inj e
  rw [g]
  exact ru
theorem LtR.at_ (I : Inv X pins σ H s) {d : Nat} {x y : V} {b : Bool} (h : LtR X.K H d x y b) : ∀ {A : Around} {u v : Value}, A.units + d < cLine → RelV x u → RelV y v → SeqAt.LtAt A s u v b := by
  induction h with
  | int d i j =>
    intro A u v hu ru rv
    obtain ⟨t, rfl⟩ := ru
    obtain ⟨t', rfl⟩ := rv
    exact SeqAt.LtAt.int_int i t j t'
  | @lists d a b xs ys es fs h1 h2 he hf ih =>
    intro A u v hu ru rv
    obtain rfl : u = Value.ref a := ru
    obtain rfl : v = Value.ref b := rv
    obtain ⟨is, r1, p1, z1⟩ := I.list h1
    obtain ⟨js, r2, p2, z2⟩ := I.list h2
    have l1 : xs.length = is.toArray.size := by have := r1.length; simpa using this
    have l2 : ys.length = js.toArray.size := by have := r2.length; simpa using this
    rw [l1, l2]
    refine SeqAt.LtAt.lists p1.isList p2.isList (by omega) (fun j q1 q2 => ?_) (fun j q1 q2 z => ?_)
    · obtain ⟨x, hx, rx⟩ := rel_at r1 q1
      obtain ⟨y, hy, ry⟩ := rel_at r2 q2
      exact ((he j _ _ hx hy).at_ I (by rw [units_in1]; omega) rx ry).2.2
    · obtain ⟨x, hx, rx⟩ := rel_at r1 q1
      obtain ⟨y, hy, ry⟩ := rel_at r2 q2
      exact ih j _ _ hx hy z (by rw [units_in1]; omega) rx ry
  | @tuples d a b xs ys es fs h1 h2 he hf ih =>
    intro A u v hu ru rv
    obtain rfl : u = Value.ref a := ru
    obtain rfl : v = Value.ref b := rv
    obtain ⟨is, r1, p1, z1⟩ := I.tuple h1
    obtain ⟨js, r2, p2, z2⟩ := I.tuple h2
    have l1 : xs.length = is.toArray.size := by have := r1.length; simpa using this
    have l2 : ys.length = js.toArray.size := by have := r2.length; simpa using this
    rw [l1, l2]
    refine SeqAt.LtAt.tuples (show s.heap.IsTuple a is.toArray from p1) (show s.heap.IsTuple b js.toArray from p2) (by omega) (fun j q1 q2 => ?_) (fun j q1 q2 z => ?_)
    · obtain ⟨x, hx, rx⟩ := rel_at r1 q1
      obtain ⟨y, hy, ry⟩ := rel_at r2 q2
      exact ((he j _ _ hx hy).at_ I (by rw [units_in1]; omega) rx ry).2.2
    · obtain ⟨x, hx, rx⟩ := rel_at r1 q1
      obtain ⟨y, hy, ry⟩ := rel_at r2 q2
      exact ih j _ _ hx hy z (by rw [units_in1]; omega) rx ry
/-- < of lists and tuples -/
def rLtS (K : PySem.W.Frag) : R2 := fun x y H Q => ∃ d e, LtR K H d x y e ∧ d ≤ 8 ∧ Q (.bl e) H
theorem op_ltS {k : Nat} (hr : Room k X.A) : OpR X (compareOp .Lt) (rLtS X.K) := by
  intro pins s σ H x y v u Q I rx ry h
  obtain ⟨d, e, r, hd, q⟩ := h
  have hu := hr.un
  exact r.at_ I (A := X.A) (by omega) rx ry X.prog X.w X.xe _ ⟨.bl e, H, I, rfl, q⟩
end
end L2
/-! ### min, max of a list of ints; all, any of a list of truths -/
namespace L2
open PySem PySem.Spec PyProof.Rows
section
variable {X : Cx}
theorem kept_it {s : Shared} {h' : Heap} {o : Obj} (hk : ∀ b x, b ∉ [s.heap.objs.size] → (s.heap.push o).get? b = some x → h'.get? b = some x) : ∀ b x, s.heap.get? b = some x → h'.get? b = some x :=
  fun b x e => hk b x (fun hm => by rw [List.mem_singleton.mp hm] at e; exact Nat.lt_irrefl _ (Heap.lt_size e)) (Heap.get?_push_of_some _ e)
theorem call_all (hc : X.calm = true) : CallR X (.builtin "all") (fun xs H Q => ∃ (p : Addr) (bs : List Bool), xs = [.ref p] ∧ SqL X.K H p (bs.map V.bl) ∧ Q (.bl (bs.all id)) H) := by
  intro pins s σ H xs us Q I r h
  obtain ⟨p, bs, rfl, hq, q⟩ := h
  obtain ⟨u, rfl, rx⟩ := vals1 r
  cases rx
  obtain ⟨its, r', pl, hz⟩ := I.list hq
  have hl := pl.isList
  have hlt : p < s.heap.objs.size := by obtain ⟨_, e, _⟩ := hl; exact Heap.lt_size e
  have hln : its.length = bs.length := by have := r'.length; simpa using this.symm
  refine call_all_walk (wpAny_pyIter_list hl ?_)
  refine ⟨s.heap.objs.size, [s.heap.objs.size, p], [s.heap.objs.size], its.toArray.size, _, _, fun i => (bs[i]?).getD true, rfl, Walks.list (A := X.A.in1) (I.ok.hd hc) _ p (Nat.ne_of_lt hlt) its.toArray,
    ⟨⟨_, Heap.get?_push_size _ rfl, rfl, rfl⟩, hl.push _⟩, fun i v s' Q' E' hP hQ => ?_, fun h' tk hk => ?_⟩
  · have hv : its[i]? = some v := by simpa using hP
    have hib : i < bs.length := by rw [← hln]; exact (List.getElem?_eq_some_iff.mp hv).1
    obtain ⟨u, hu, ru⟩ := r'.get (show (bs.map V.bl)[i]? = some (.bl bs[i]) by rw [List.getElem?_map, List.getElem?_eq_getElem hib]; rfl)
    rw [hv] at hu
    cases hu
    obtain rfl : v = Value.bool bs[i] := ru
    simp only [List.getElem?_eq_getElem hib, Option.getD_some] at hQ
    exact wpAny_truthy_bool hQ
  · refine ⟨.bl (bs.all id), H, I.kept (kept_it hk), ?_, q⟩
    show Value.bool _ = Value.bool _
    rw [List.size_toArray, hln, PyProof.Rows.LSm.range_all]
end
end L2
/-! ### tuples of ints -/
namespace L2
open PySem PySem.Spec PyProof.Rows
/-- a tuple of ints -/
def tI (xs : List Int) : D := .t (xs.map .i)
theorem iss_ints {H : Hp} : ∀ {xs : List Int} {vs : List V}, Iss H (xs.map .i) vs → vs = xs.map V.int
  | [], vs, h => h
  | x :: xs, vs, h => by
    obtain ⟨u, us, rfl, h1, h2⟩ := h
    rw [of_i h1, iss_ints h2]
    rfl
theorem ints_iss {H : Hp} : ∀ (xs : List Int), Iss H (xs.map .i) (xs.map V.int)
  | [] => rfl
  | x :: xs => ⟨_, _, rfl, is_i, ints_iss xs⟩
theorem of_tI {H : Hp} {xs : List Int} {v : V} (h : Is H (tI xs) v) : ∃ a, v = .ref a ∧ H a = some (.tup (xs.map V.int)) := by
  obtain ⟨a, vs, rfl, ha, hi⟩ := of_t h
  rw [iss_ints hi] at ha
  exact ⟨a, rfl, ha⟩
theorem is_tI {H : Hp} {xs : List Int} {a : Addr} (h : H a = some (.tup (xs.map V.int))) : Is H (tI xs) (.ref a) := is_t h (ints_iss xs)
end L2
/-! ### sorted(xs) of a list of tuples of ints, fewer than 64: some order of them, by the kit's own tree of the sort -/
namespace L2
open PySem PySem.Spec PyProof.Rows PySem.W
section
variable {n : Nat}
/-- the places in some order -/
def Ord (n : Nat) (p : Array Nat) : Prop := p.Perm (List.range n).toArray
theorem Ord.size {p : Array Nat} (h : Ord n p) : p.size = n := by
  have := (Array.perm_iff_toList_perm.mp h).length_eq
  simpa using this
theorem Ord.lt {p : Array Nat} (h : Ord n p) {i : Nat} (hi : i ∈ p.toList) : i < n := by
  have := (Array.perm_iff_toList_perm.mp h).mem_iff.mp hi
  simpa using this
theorem Ord.bubble {p : Array Nat} (h : Ord n p) (i j : Nat) : Ord n (PyProof.Rows.bubble p i j) := (bubble_perm p i j).trans h
theorem Ord.kas {p : Array Nat} (h : Ord n p) (i j : Nat) : Ord n (kas_rev p i j) := (mirror_perm p i j _).trans h
theorem Ord.getD {p : Array Nat} (h : Ord n p) (hn : 0 < n) (i : Nat) : p.getD i 0 < n := by
  by_cases hi : i < p.size
  · have e : p.getD i 0 = p[i] := by simp [Array.getD, hi]
    rw [e]
    exact h.lt (by simp)
  · have e : p.getD i 0 = 0 := by simp [Array.getD, hi]
    rw [e]
    exact hn
/-- every way through the tree asks of places and ends in R -/
def Leaves (n : Nat) {α : Type} (R : α → Prop) : KasT α → Prop
  | .ret a => R a
  | .ask i j k => i < n ∧ j < n ∧ ∀ b, Leaves n R (k b)
theorem Leaves.bind {α β : Type} {R : α → Prop} {R' : β → Prop} {f : α → KasT β} (hf : ∀ a, R a → Leaves n R' (f a)) : ∀ {t : KasT α}, Leaves n R t → Leaves n R' (t.bind f)
  | .ret a, h => hf a h
  | .ask i j k, h => ⟨h.1, h.2.1, fun b => Leaves.bind hf (h.2.2 b)⟩
variable (hn : 0 < n)
include hn
theorem lv_asc {p : Array Nat} (h : Ord n p) : ∀ f m, Leaves n (fun _ => True) (kas_asc p f m)
  | 0, m => trivial
  | f + 1, m => ⟨h.getD hn _, h.getD hn _, fun b => by
    cases b with
    | true => exact trivial
    | false => exact lv_asc h f (m + 1)⟩
theorem lv_desc : ∀ (f : Nat) (p : Array Nat) (m q : Nat), Ord n p → Leaves n (fun r => Ord n r.1) (kas_desc f p m q)
  | 0, p, m, q, h => h
  | f + 1, p, m, q, h => ⟨h.getD hn _, h.getD hn _, fun b => by
    cases b with
    | true =>
      show Leaves n _ (if q > 0 then kas_desc f (kas_rev p (m - (q + 1)) m) (m + 1) 0 else kas_desc f p (m + 1) 0)
      by_cases hq : q > 0
      · rw [if_pos hq]; exact lv_desc f _ _ _ (h.kas _ _)
      · rw [if_neg hq]; exact lv_desc f _ _ _ h
    | false =>
      refine (show Leaves n _ (KasT.ask (p.getD (m - 1) 0) (p.getD m 0) fun d => if d = true then KasT.ret (p, m, q) else kas_desc f p (m + 1) (q + 1)) from ⟨h.getD hn _, h.getD hn _, fun b => ?_⟩)
      cases b with
      | true => exact h
      | false => exact lv_desc f _ _ _ h⟩
theorem lv_tail {p : Array Nat} (h : Ord n p) (m k : Nat) : Leaves n (fun r => Ord n r.2) (kas_tail3 m k p) := by
  unfold kas_tail3
  refine Leaves.bind (fun a _ => ?_) (lv_asc hn (h.kas 0 m) _ _)
  exact h.kas 0 m
theorem lv_part {p : Array Nat} (h : Ord n p) (m k : Nat) : Leaves n (fun r => Ord n r.2) (kas_descPart m k p) := by
  refine (lv_desc hn _ _ _ _ h).bind fun r hr => ?_
  by_cases hq : r.2.2 > 0
  · rw [if_pos hq]; exact lv_tail hn (hr.kas _ _) _ _
  · rw [if_neg hq]; exact lv_tail hn hr _ _
theorem lv_count {p : Array Nat} (h : Ord n p) (k : Nat) : Leaves n (fun r => Ord n r.2) (kas_count k p) := by
  refine (lv_asc hn h _ _).bind fun m _ => ?_
  by_cases h1 : (m == k) = true
  · rw [if_pos h1]; exact h
  · rw [if_neg h1]
    by_cases h2 : m > 1
    · rw [if_pos h2]
      refine ⟨h.getD hn _, h.getD hn _, fun b => ?_⟩
      cases b with
      | true => exact h
      | false => exact lv_part hn (h.kas _ _) _ _
    · rw [if_neg h2]; exact lv_part hn h _ _
theorem lv_place {p : Array Nat} (h : Ord n p) (k : Nat) : ∀ f l r, Leaves n (fun _ => True) (kas_place p k f l r)
  | 0, l, r => trivial
  | f + 1, l, r => by
    unfold kas_place
    by_cases h1 : l ≥ r
    · rw [if_pos h1]; exact trivial
    · rw [if_neg h1]
      refine ⟨h.getD hn _, h.getD hn _, fun b => ?_⟩
      cases b with
      | true => exact lv_place h k f _ _
      | false => exact lv_place h k f _ _
theorem lv_bin : ∀ (f : Nat) (p : Array Nat) (k : Nat), Ord n p → Leaves n (Ord n) (kas_bin f p k)
  | 0, p, k, h => h
  | f + 1, p, k, h => (lv_place hn h k _ _ _).bind fun l _ => lv_bin f _ _ (h.bubble _ _)
theorem lv_sort : Leaves n (Ord n) (kas_sort n) := by
  refine (lv_count hn (show Ord n (List.range n).toArray from Array.Perm.refl _) n).bind fun r hr => ?_
  by_cases h : r.1 < n
  · rw [if_pos h]; exact lv_bin hn _ _ _ hr
  · rw [if_neg h]; exact hr
end
section
variable {prog : Program} {w : World} {A : Around} {E : Value → Shared → Prop} {s : Shared}
abbrev sortIn (h : Heap) (a : Addr) (vs : List Value) : Heap := ((h.update a (Obj.mapSeq fun _ => (#[] : Array Value))).push (seqObj "tuple" vs.toArray 0)).push (seqObj "list" #[] 0)
abbrev sortedIn (h : Heap) (vs : List Value) : Heap := sortIn (((h.push (seqObj "list" #[] 0)).update h.objs.size (Obj.mapSeq (· ++ vs.toArray))).push (seqObj "list" vs.toArray 0)) (h.objs.size + 1) vs
theorem sortedIn_old {h : Heap} {vs : List Value} {b : Addr} {o : Obj} (hb : h.get? b = some o) : (sortedIn h vs).get? b = some o := by
  have hlt : b < h.objs.size := Heap.lt_size hb
  have sz : (((h.push (seqObj "list" #[] 0)).update h.objs.size (Obj.mapSeq (· ++ vs.toArray))).push (seqObj "list" vs.toArray 0)).objs.size = h.objs.size + 2 := by rw [size_push', Heap.size_update, size_push']
  have n0 : b ≠ h.objs.size := Nat.ne_of_lt hlt
  have n1 : b ≠ h.objs.size + 1 := Nat.ne_of_lt (Nat.lt_succ_of_lt hlt)
  have n2 : b ≠ h.objs.size + 2 := Nat.ne_of_lt (Nat.lt_succ_of_lt (Nat.lt_succ_of_lt hlt))
  have n3 : b ≠ h.objs.size + 2 + 1 := Nat.ne_of_lt (Nat.lt_succ_of_lt (Nat.lt_succ_of_lt (Nat.lt_succ_of_lt hlt)))
  rw [Heap.get?_push_ne _ _ _ (by rw [size_push', Heap.size_update, sz]; exact n3), Heap.get?_push_ne _ _ _ (by rw [Heap.size_update, sz]; exact n2), Heap.get?_update_ne _ _ _ _ n1,
    Heap.get?_push_ne _ _ _ (by rw [Heap.size_update, size_push']; exact n1), Heap.get?_update_ne _ _ _ _ n0, Heap.get?_push_ne _ _ _ n0]
  exact hb
end
/-! fewer than two items -/
section
variable {prog : Program} {w : World} {A : Around} {E : Value → Shared → Prop} {s : Shared}
theorem sort_few {a : Addr} {vs : List Value} {n : Nat} {P : PySem.Fin → Shared → Prop} (ho : s.heap.get? a = some (seqObj "list" vs.toArray n)) (h2 : vs.length < 2)
    (h : P (.done (.ret .none)) { s with heap := sortedHeap s.heap a vs vs.toArray }) : wpAny (model prog w) A (Builtin.«list.sort» ⟨[.ref a], []⟩) P E s := by
  rw [list_sort_plain]
  have ha : a < s.heap.objs.size := Heap.lt_size ho
  refine wpAny_bind (listItems_at ho rfl ?_)
  refine wpAny_bind (listUpdate_at ho rfl ?_ (by rw [List.size_toArray, sizeLine_eq]; omega) (Nat.zero_le _))
  obtain ⟨e1, ho1⟩ : ∃ e1, (s.heap.update a (Obj.mapSeq fun _ => (#[] : Array Value))).get? a = some (seqObj "list" #[] e1) := ⟨_, get?_update_seq ho (fun _ => #[])⟩
  refine wpAny_bind (seqEpoch_at ho1 rfl ?_)
  refine wpAny_bind (wpAny_newTuple ?_ (by show vs.length ≤ _; rw [sizeLine_eq]; omega))
  refine wpAny_bind (wpAny_newList ?_ (Nat.zero_le _))
  refine wpAny_holding ?_
  have ho6 : (sortIn s.heap a vs).get? a = some (seqObj "list" #[] e1) := by
    rw [Heap.get?_push_ne _ _ _ (by rw [size_push', Heap.size_update]; exact Nat.ne_of_lt (Nat.lt_succ_of_lt ha)), Heap.get?_push_ne _ _ _ (by rw [Heap.size_update]; exact Nat.ne_of_lt ha)]
    exact ho1
  show wpAny (model prog w) A _ P E { s with heap := sortIn s.heap a vs }
  dsimp only
  have hn2 : vs.toArray.size < 2 := by rw [List.size_toArray]; omega
  rw [if_pos hn2, if_pos hn2]
  refine wpAny_bind (wpAny_pure ?_)
  rw [StateT.run_pure]
  refine wpAny_bind (wpAny_pure ?_)
  dsimp only
  have eo : (vs.toArray.zip vs.toArray).map (·.2) = vs.toArray := by
    refine Array.ext (by simp) fun i h1 h2 => ?_
    simp
  refine wpAny_bind (seqEpoch_at ho6 rfl ?_)
  rw [eo]
  refine wpAny_bind (listUpdate_at ho6 rfl ?_ (Nat.zero_le _) (by rw [List.size_toArray, sizeLine_eq]; omega))
  simp only [bne_self_eq_false, Bool.false_eq_true, if_false]
  exact wpAny_pure h
theorem sorted_few {l : Addr} {vs : List Value} {Q : Value → Shared → Prop} (hl : s.heap.IsList l vs.toArray) (h2 : vs.length < 2)
    (h : Q (.ref (s.heap.objs.size + 1)) { s with heap := sortedAll s.heap vs vs.toArray }) : wpAny (model prog w) A (call (.builtin "sorted") [.ref l]) Q E s := by
  refine Calls.call_function_entry kind_sorted plain_sorted entry_sorted (args_sorted1 _) ?_
  unfold Builtin.«sorted»
  refine wpAny_bind (m := checkCount "sorted" 1 1 _) (wpAny_pure ?_)
  refine wpAny_bind (collect_list hl ?_ (by rw [sizeLine_eq]; omega))
  refine wpAny_bind (wpAny_newList ?_ (by rw [sizeLine_eq]; omega))
  have hsz : ((s.heap.push (seqObj "list" #[] 0)).update s.heap.objs.size (Obj.mapSeq (· ++ vs.toArray))).objs.size = s.heap.objs.size + 1 := by
    rw [Heap.size_update, size_push']
  have hoL : (((s.heap.push (seqObj "list" #[] 0)).update s.heap.objs.size (Obj.mapSeq (· ++ vs.toArray))).push (seqObj "list" vs.toArray 0)).get? (s.heap.objs.size + 1) = some (seqObj "list" vs.toArray 0) := by
    rw [← hsz]; exact Heap.get?_push_size _ rfl
  show wpAny _ _ _ _ _ { s with heap := ((s.heap.push (seqObj "list" #[] 0)).update s.heap.objs.size (Obj.mapSeq (· ++ vs.toArray))).push (seqObj "list" vs.toArray 0) }
  rw [hsz]
  refine wpAny_bind (wpAny_holding (wpAny_call_entry slot_list_sort ⟨_, hoL, rfl⟩ entry_list_sort (sort_few (s := { s with heap := ((s.heap.push (seqObj "list" #[] 0)).update s.heap.objs.size (Obj.mapSeq (· ++ vs.toArray))).push (seqObj "list" vs.toArray 0) }) hoL h2 ⟨_, rfl, ?_⟩) (args_list_sort _)))
  exact wpAny_pure ⟨_, rfl, h⟩
end
section
variable {X : Cx}
theorem vals_getD {rs : List V} {its : List Value} (r : Vals rs its) : ∀ (l : List Nat), (∀ i ∈ l, i < rs.length) → Vals (l.map fun i => rs.getD i .non) (l.map fun i => its.getD i .none)
  | [], _ => .nil
  | i :: l, h => by
    have hi : i < rs.length := h i (by simp)
    have e : rs[i]? = some rs[i] := List.getElem?_eq_getElem hi
    obtain ⟨u, hu, ru⟩ := r.get e
    rw [List.map_cons, List.map_cons]
    refine .cons ?_ (vals_getD r l fun j hj => h j (by simp [hj]))
    rw [List.getD, List.getD, e, hu]
    exact ru
end
/-! the question of two tuples of ints -/
def lexI (fin : Bool) : List Int → List Int → Bool
  | x :: xs, y :: ys => if x = y then lexI fin xs ys else decide (x < y)
  | _, _ => fin
def ltI (xs ys : List Int) : Bool := lexI (decide (xs.length < ys.length)) xs ys
section
variable {prog : Program} {w : World} {A : Around} {E : Value → Shared → Prop} {s : Shared}
theorem lex_ints {fin : Bool} {Q : Bool → Shared → Prop} : ∀ {xs ys : List Int} {is js : List Value} (i : Nat), Vals (xs.map V.int) is → Vals (ys.map V.int) js → Q (lexI fin xs ys) s → KatLex prog w A true fin Q (is.zip js) i s
  | [], ys, is, js, i, h1, h2, q => by
    cases h1
    rw [List.zip_nil_left]
    exact kat_nil (by cases ys <;> exact q)
  | x :: xs, [], is, js, i, h1, h2, q => by
    cases h2
    rw [List.zip_nil_right]
    exact kat_nil q
  | x :: xs, y :: ys, is, js, i, h1, h2, q => by
    cases h1 with
    | cons r1 h1 =>
    cases h2 with
    | cons r2 h2 =>
    obtain ⟨t, rfl⟩ := r1
    obtain ⟨t', rfl⟩ := r2
    rw [List.zip_cons_cons]
    refine kat_cons ?_
    refine wpAny_eqBool_int ?_
    unfold lexI at q
    by_cases e : x = y
    · rw [if_pos e] at q
      rw [show (x == y) = true by simp [e]]
      exact kat_yes (lex_ints (i + 1) h1 h2 q)
    · rw [if_neg e] at q
      rw [show (x == y) = false by simp [e]]
      refine kat_no ?_
      cases hb : (true && i == 0) with
      | true => exact oneLt_int q
      | false => exact kat_one _ _ (SeqAt.LtAt.int_int x t y t' prog w _ _ q)
end
theorem map_getD (xss : List (List Int)) : (List.range xss.length).map (fun i => xss.getD i []) = xss := by
  refine List.ext_getElem (by simp) fun i h1 h2 => ?_
  simp [List.getD, h2]
theorem iss_getD {H : Hp} {xss : List (List Int)} {rs : List V} (h : Iss H (xss.map tI) rs) : ∀ (l : List Nat), (∀ i ∈ l, i < xss.length) → Iss H ((l.map fun i => xss.getD i []).map tI) (l.map fun i => rs.getD i .non)
  | [], _ => rfl
  | i :: l, hl => by
    have hi : i < xss.length := hl i (by simp)
    have hr : i < rs.length := by rw [h.length, List.length_map]; exact hi
    refine ⟨_, _, rfl, ?_, iss_getD h l fun j hj => hl j (by simp [hj])⟩
    obtain ⟨d, hd, h1⟩ := h.of_get (List.getElem?_eq_getElem hr)
    rw [List.getElem?_map, List.getElem?_eq_getElem hi] at hd
    cases hd
    show Is H (tI (xss.getD i [])) (rs.getD i .non)
    rw [List.getD_eq_getElem?_getD, List.getD_eq_getElem?_getD, List.getElem?_eq_getElem hi, List.getElem?_eq_getElem hr]
    exact h1
section
variable {X : Cx} {pins : List (Addr × Obj)} {σ : St} {H : Hp} {s : Shared}
theorem kat_tups (I : Inv X pins σ H s) : ∀ {xss : List (List Int)} {rs : List V} {its : List Value}, Iss H (xss.map tI) rs → Vals rs its → (∀ xs ∈ xss, xs ≠ []) → ∃ fs : List Value, KatTups s.heap its fs ∧ fs.length = its.length ∧ ∀ f ∈ fs, ∃ z t, f = Value.int z t
  | [], rs, its, h, r, _ => by
    obtain rfl : rs = [] := h
    cases r
    exact ⟨[], KatTups.nil, rfl, fun _ h => nomatch h⟩
  | xs :: xss, rs, its, h, r, hne => by
    obtain ⟨u, us, rfl, h1, h2⟩ := h
    cases r with
    | cons r1 r2 =>
    rename_i v its
    obtain ⟨fs, k1, k2, k3⟩ := kat_tups I h2 r2 fun ys hy => hne ys (by simp [hy])
    obtain ⟨a, rfl, ha⟩ := of_tI h1
    obtain rfl : v = Value.ref a := r1
    obtain ⟨is, q1, q2, q3⟩ := I.tuple (SqT.of (K := X.K) ha)
    obtain ⟨o, ho, hc, n, hd⟩ := (show s.heap.IsTuple a is.toArray from q2)
    match xs, hne xs (by simp) with
    | x :: xs', _ =>
    cases q1 with
    | cons q0 q1 =>
    obtain ⟨t, rfl⟩ := q0
    refine ⟨.int x t :: fs, KatTups.cons ho hc hd (by simp) k1, by simp [k2], fun f hf => ?_⟩
    rcases List.mem_cons.mp hf with rfl | hf
    · exact ⟨_, _, rfl⟩
    · exact k3 f hf
theorem key_ints (I : Inv X pins σ H s) {a b : Addr} {xs ys : List Int} (h1 : SqT X.K H a (xs.map V.int)) (h2 : SqT X.K H b (ys.map V.int)) {A : Around} {prog : Program} {w : World} {E : Value → Shared → Prop} {Q : Bool → Shared → Prop} (q : Q (ltI xs ys) s) :
    wpAny (model prog w) A (keyLt' (tuples' true) (.ref a) (.ref b)) Q E s := by
  obtain ⟨is, r1, p1, z1⟩ := I.tuple h1
  obtain ⟨js, r2, p2, z2⟩ := I.tuple h2
  obtain ⟨o1, ho1, hc1, n1, hd1⟩ := (show s.heap.IsTuple a is.toArray from p1)
  obtain ⟨o2, ho2, hc2, n2, hd2⟩ := (show s.heap.IsTuple b js.toArray from p2)
  refine kat_lt ho1 hd1 ho2 hd2 ?_
  have l1 : is.toArray.size = xs.length := by have := r1.length; simp at this ⊢; omega
  have l2 : js.toArray.size = ys.length := by have := r2.length; simp at this ⊢; omega
  rw [l1, l2]
  exact lex_ints 0 r1 r2 q
end
end L2
/-! ### texts: a.join(xs), a text in an f-string -/
namespace L2
open PySem PySem.Spec PyProof.Rows
theorem strs_of : ∀ {zs : List Str} {its : List Value}, Vals (zs.map V.str) its → StrsAre its zs
  | [], _, .nil => .nil
  | z :: zs, _, .cons r rs => by
    obtain ⟨t, rfl⟩ := r
    exact .cons _ _ (strs_of rs)
section
variable {X : Cx} {v : Expr} {te : TE} {pos : Pos}
def rJoin (K : PySem.W.Frag) : V → List V → Hp → VK → Prop := fun o vs H Q => ∃ (u : Str) (p : Addr) (zs : List Str), o = .str u ∧ vs = [.ref p] ∧ SqL K H p (zs.map V.str) ∧ (zs.map (·.length)).sum + zs.length * u.length ≤ 16777216 ∧ Q (.str (Txt.join u zs)) H
theorem mt_join : MtR X "str.join" (rJoin X.K) := by
  intro pins s σ H x vs v us Q I rx rv h
  obtain ⟨u, p, zs, rfl, rfl, hq, hz, q⟩ := h
  obtain ⟨t, rfl⟩ := rx
  obtain ⟨u2, rfl, r2⟩ := rv.one
  cases r2
  obtain ⟨its, r', pl, _⟩ := I.list hq
  refine join_list pl.isList (strs_of r') hz fun t' k => ⟨.str _, H, I.tok _, ⟨_, rfl⟩, q⟩
end
end L2
/-! ### the kit's tree of a sort of fewer than 64 items: where each question is answered by an order, its end is sorted -/
namespace L2
open PySem PySem.Spec PyProof.Rows PySem.W
/-- the tree walked with the answers c -/
def krun (c : Nat → Nat → Bool) {α : Type} : KasT α → α
  | .ret a => a
  | .ask i j k => krun c (k (c i j))
theorem krun_bind {c : Nat → Nat → Bool} {α β : Type} {f : α → KasT β} : ∀ (t : KasT α), krun c (t.bind f) = krun c (f (krun c t))
  | .ret _ => rfl
  | .ask i j k => krun_bind (k (c i j))
/-- what an order keeps: not less the other way round, told on -/
structure Ordr (c : Nat → Nat → Bool) : Prop where
  asym : ∀ a b, c a b = true → c b a = false
  tr : ∀ a b d, c b a = false → c d b = false → c d a = false
section
variable {c : Nat → Nat → Bool}
abbrev at0 (p : Array Nat) (i : Nat) : Nat := p.getD i 0
/-- the first m, none less than one ahead of it -/
def Up (c : Nat → Nat → Bool) (p : Array Nat) (m : Nat) : Prop := ∀ i j, i < j → j < m → c (at0 p j) (at0 p i) = false
def Dn (c : Nat → Nat → Bool) (p : Array Nat) (m : Nat) : Prop := ∀ i j, i < j → j < m → c (at0 p i) (at0 p j) = false
theorem Up.more (O : Ordr c) {p : Array Nat} {m : Nat} (h : Up c p m) (hm : 0 < m) (e : c (at0 p m) (at0 p (m - 1)) = false) : Up c p (m + 1) := by
  intro i j hij hj
  by_cases hjm : j < m
  · exact h i j hij hjm
  · obtain rfl : j = m := by omega
    by_cases hi : i = j - 1
    · subst hi; exact e
    · exact O.tr _ _ _ (h i (j - 1) (by omega) (by omega)) e
theorem Dn.more (O : Ordr c) {p : Array Nat} {m : Nat} (h : Dn c p m) (hm : 0 < m) (e : c (at0 p (m - 1)) (at0 p m) = false) : Dn c p (m + 1) := by
  intro i j hij hj
  by_cases hjm : j < m
  · exact h i j hij hjm
  · obtain rfl : j = m := by omega
    by_cases hi : i = j - 1
    · subst hi; exact e
    · exact O.tr _ _ _ e (h i (j - 1) (by omega) (by omega))
theorem krun_asc (O : Ordr c) {p : Array Nat} : ∀ (f m : Nat), 0 < m → Up c p m → m ≤ krun c (kas_asc p f m) ∧ krun c (kas_asc p f m) ≤ m + f ∧ Up c p (krun c (kas_asc p f m)) ∧ (krun c (kas_asc p f m) < m + f → c (at0 p (krun c (kas_asc p f m))) (at0 p (krun c (kas_asc p f m) - 1)) = true)
  | 0, m, hm, h => ⟨Nat.le_refl _, Nat.le_refl _, h, fun z => absurd z (Nat.lt_irrefl _)⟩
  | f + 1, m, hm, h => by
    unfold kas_asc krun
    cases e : c (p.getD m 0) (p.getD (m - 1) 0) with
    | true =>
      dsimp only
      rw [if_pos rfl]
      exact ⟨Nat.le_refl _, by show m ≤ _; omega, h, fun _ => e⟩
    | false =>
      dsimp only
      rw [if_neg (by decide)]
      obtain ⟨h1, h2, h3, h4⟩ := krun_asc O f (m + 1) (by omega) (h.more O hm e)
      exact ⟨by omega, by omega, h3, fun z => h4 (by omega)⟩
theorem rev_at {p : Array Nat} {i j : Nat} (hj : j ≤ p.size) (k : Nat) : at0 (kas_rev p i j) k = if i ≤ k ∧ k < j then at0 p (i + j - 1 - k) else at0 p k := by
  have h := getElem?_mirror_all (xs := p) (i := i) hj k
  have e : ∀ q : Array Nat, ∀ k, at0 q k = (q[k]?).getD 0 := fun q k => by simp [at0, Array.getD]; split <;> simp [*]
  rw [e, e, e]
  unfold kas_rev
  rw [h]
  split <;> rfl
theorem rev_size (p : Array Nat) (i j : Nat) : (kas_rev p i j).size = p.size := mirror_size _ _ _ _
theorem Dn.rev_all {p : Array Nat} {m : Nat} (h : Dn c p m) (hm : m ≤ p.size) : Up c (kas_rev p 0 m) m := by
  intro i j hij hj
  rw [rev_at hm, rev_at hm, if_pos ⟨by omega, hj⟩, if_pos ⟨by omega, by omega⟩]
  exact h _ _ (by omega) (by omega)
theorem Up.rev_all {p : Array Nat} {m : Nat} (h : Up c p m) (hm : m ≤ p.size) : Dn c (kas_rev p 0 m) m := by
  intro i j hij hj
  rw [rev_at hm, rev_at hm, if_pos ⟨by omega, by omega⟩, if_pos ⟨by omega, hj⟩]
  exact h _ _ (by omega) (by omega)
/-- the block of like ones at the end may be turned -/
theorem Dn.rev_blk {p : Array Nat} {m q : Nat} (h : Dn c p m) (hm : m ≤ p.size) (hq : q + 1 ≤ m) (hb : ∀ i j, m - (q + 1) ≤ i → i < m → m - (q + 1) ≤ j → j < m → c (at0 p i) (at0 p j) = false) : Dn c (kas_rev p (m - (q + 1)) m) m := by
  intro i j hij hj
  rw [rev_at hm, rev_at hm]
  by_cases h1 : m - (q + 1) ≤ i
  · rw [if_pos ⟨h1, by omega⟩, if_pos ⟨by omega, hj⟩]
    exact hb _ _ (by omega) (by omega) (by omega) (by omega)
  · rw [if_neg (by omega)]
    by_cases h2 : m - (q + 1) ≤ j
    · rw [if_pos ⟨h2, hj⟩]
      exact h _ _ (by omega) (by omega)
    · rw [if_neg (by omega)]
      exact h _ _ hij hj
/-- the q + 1 at the end are alike -/
def Blk (c : Nat → Nat → Bool) (p : Array Nat) (m q : Nat) : Prop := q + 1 ≤ m ∧ ∀ i j, m - (q + 1) ≤ i → i < m → m - (q + 1) ≤ j → j < m → c (at0 p i) (at0 p j) = false
theorem krun_desc (O : Ordr c) : ∀ (f : Nat) (p : Array Nat) (m q : Nat), m + f ≤ p.size → 0 < m → Dn c p m → Blk c p m q → ∀ r, r = krun c (kas_desc f p m q) → r.1.size = p.size ∧ m ≤ r.2.1 ∧ r.2.1 ≤ m + f ∧ Dn c r.1 r.2.1 ∧ Blk c r.1 r.2.1 r.2.2
  | 0, p, m, q, _, _, hd, hb, r, e => by
    subst e
    exact ⟨rfl, Nat.le_refl _, Nat.le_refl _, hd, hb⟩
  | f + 1, p, m, q, hs, hm, hd, hb, r, e => by
    unfold kas_desc krun at e
    cases e1 : c (p.getD m 0) (p.getD (m - 1) 0) with
    | true =>
      rw [e1] at e
      dsimp only at e
      rw [if_pos rfl] at e
      have e2 := O.asym _ _ e1
      by_cases hq : q > 0
      · rw [if_pos hq] at e
        have hd2 := hd.rev_blk (by omega) hb.1 hb.2
        have at_m : at0 (kas_rev p (m - (q + 1)) m) m = at0 p m := by rw [rev_at (by omega), if_neg (by omega)]
        have at_m1 : at0 (kas_rev p (m - (q + 1)) m) (m - 1) = at0 p (m - (q + 1) + m - 1 - (m - 1)) := by rw [rev_at (by omega), if_pos ⟨by have := hb.1; omega, by omega⟩]
        have e3 : c (at0 (kas_rev p (m - (q + 1)) m) (m - 1)) (at0 (kas_rev p (m - (q + 1)) m) m) = false := by
          rw [at_m, at_m1]
          have b1 := hb.1
          exact O.tr _ _ _ e2 (hb.2 _ (m - 1) (by omega) (by omega) (by omega) (by omega))
        have hd3 := hd2.more O hm e3
        have hb3 : Blk c (kas_rev p (m - (q + 1)) m) (m + 1) 0 := ⟨by omega, fun i j h1 h2 h3 h4 => by
          obtain rfl : i = m := by omega
          obtain rfl : j = i := by omega
          cases h : c (at0 (kas_rev p (j - (q + 1)) j) j) (at0 (kas_rev p (j - (q + 1)) j) j) with
          | false => rfl
          | true => have := O.asym _ _ h; rw [h] at this; cases this⟩
        obtain ⟨r1, r2, r3, r4, r5⟩ := krun_desc O f _ (m + 1) 0 (by rw [rev_size]; omega) (by omega) hd3 hb3 r e
        exact ⟨by rw [r1, rev_size], by omega, by omega, r4, r5⟩
      · rw [if_neg hq] at e
        have hd3 := hd.more O hm e2
        have hb3 : Blk c p (m + 1) 0 := ⟨by omega, fun i j h1 h2 h3 h4 => by
          obtain rfl : i = m := by omega
          obtain rfl : j = i := by omega
          cases h : c (at0 p j) (at0 p j) with
          | false => rfl
          | true => have := O.asym _ _ h; rw [h] at this; cases this⟩
        obtain ⟨r1, r2, r3, r4, r5⟩ := krun_desc O f _ (m + 1) 0 (by omega) (by omega) hd3 hb3 r e
        exact ⟨r1, by omega, by omega, r4, r5⟩
    | false =>
      rw [e1] at e
      dsimp only at e
      rw [if_neg (by decide)] at e
      unfold krun at e
      cases e2 : c (p.getD (m - 1) 0) (p.getD m 0) with
      | true =>
        rw [e2] at e
        dsimp only at e
        rw [if_pos rfl] at e
        subst e
        exact ⟨rfl, Nat.le_refl _, by show m ≤ _; omega, hd, hb⟩
      | false =>
        rw [e2] at e
        dsimp only at e
        rw [if_neg (by decide)] at e
        have hd3 := hd.more O hm e2
        have b1 := hb.1
        have hb3 : Blk c p (m + 1) (q + 1) := ⟨by omega, fun i j h1 h2 h3 h4 => by
          by_cases hi : i = m
          · by_cases hj : j = m
            · subst hi; subst hj
              cases h : c (at0 p j) (at0 p j) with
              | false => rfl
              | true => have := O.asym _ _ h; rw [h] at this; cases this
            · subst hi
              exact O.tr _ _ _ (hb.2 _ _ (by omega) (by omega) (by omega) (by omega)) e1
          · by_cases hj : j = m
            · subst hj
              exact O.tr _ _ _ e2 (hb.2 _ _ (by omega) (by omega) (by omega) (by omega))
            · exact hb.2 _ _ (by omega) (by omega) (by omega) (by omega)⟩
        obtain ⟨r1, r2, r3, r4, r5⟩ := krun_desc O f _ (m + 1) (q + 1) (by omega) (by omega) hd3 hb3 r e
        exact ⟨r1, by omega, by omega, r4, r5⟩
theorem krun_tail (O : Ordr c) {p : Array Nat} {m n : Nat} (hn : n ≤ p.size) (hm : m ≤ n) (h0 : 0 < m) (hd : Dn c p m) : ∀ r, r = krun c (kas_tail3 m n p) → r.2.size = p.size ∧ 0 < r.1 ∧ r.1 ≤ n ∧ Up c r.2 r.1 := by
  intro r e
  unfold kas_tail3 at e
  rw [krun_bind] at e
  subst e
  obtain ⟨h1, h2, h3, _⟩ := krun_asc O (n - m) m h0 (hd.rev_all (by omega))
  exact ⟨rev_size _ _ _, by show 0 < krun c _; omega, by show krun c _ ≤ n; omega, h3⟩
theorem krun_part (O : Ordr c) {p : Array Nat} {m n : Nat} (hn : n ≤ p.size) (hm : m < n) (h0 : 0 < m) (hd : Dn c p m) (e : c (at0 p m) (at0 p (m - 1)) = true) : ∀ r, r = krun c (kas_descPart m n p) → r.2.size = p.size ∧ 0 < r.1 ∧ r.1 ≤ n ∧ Up c r.2 r.1 := by
  intro r er
  unfold kas_descPart at er
  rw [krun_bind] at er
  have hd1 := hd.more O h0 (O.asym _ _ e)
  have hb1 : Blk c p (m + 1) 0 := ⟨by omega, fun i j h1 h2 h3 h4 => by
    obtain rfl : i = m := by omega
    obtain rfl : j = i := by omega
    cases h : c (at0 p j) (at0 p j) with
    | false => rfl
    | true => have := O.asym _ _ h; rw [h] at this; cases this⟩
  obtain ⟨r1, r2, r3, r4, r5⟩ := krun_desc O (n - (m + 1)) p (m + 1) 0 (by omega) (by omega) hd1 hb1 _ rfl
  generalize krun c (kas_desc (n - (m + 1)) p (m + 1) 0) = d at *
  split at er
  · obtain ⟨t1, t2, t3, t4⟩ := krun_tail O (p := kas_rev d.1 (d.2.1 - (d.2.2 + 1)) d.2.1) (m := d.2.1) (n := n) (by rw [rev_size]; omega) (by omega) (by omega) (r4.rev_blk (by omega) r5.1 r5.2) r er
    exact ⟨by rw [t1, rev_size, r1], t2, t3, t4⟩
  · obtain ⟨t1, t2, t3, t4⟩ := krun_tail O (p := d.1) (m := d.2.1) (n := n) (by omega) (by omega) (by omega) r4 r er
    exact ⟨by rw [t1, r1], t2, t3, t4⟩
theorem krun_count (O : Ordr c) {p : Array Nat} {n : Nat} (hn : n ≤ p.size) (h0 : 0 < n) : ∀ r, r = krun c (kas_count n p) → r.2.size = p.size ∧ 0 < r.1 ∧ r.1 ≤ n ∧ Up c r.2 r.1 := by
  intro r er
  unfold kas_count at er
  rw [krun_bind] at er
  obtain ⟨h1, h2, h3, h4⟩ := krun_asc O (p := p) (n - 1) 1 (by decide) (fun i j a b => absurd b (by omega))
  generalize krun c (kas_asc p (n - 1) 1) = m at *
  by_cases hm : m = n
  · subst hm
    rw [if_pos (by simp)] at er
    subst er
    exact ⟨rfl, h0, Nat.le_refl _, h3⟩
  · rw [if_neg (by simp [hm])] at er
    have st := h4 (by omega)
    by_cases h5 : m > 1
    · rw [if_pos h5] at er
      unfold krun at er
      cases e1 : c (p.getD 0 0) (p.getD (m - 1) 0) with
      | true =>
        rw [e1] at er
        dsimp only at er
        rw [if_pos rfl] at er
        subst er
        exact ⟨rfl, by show 0 < m; omega, by show m ≤ n; omega, h3⟩
      | false =>
        rw [e1] at er
        dsimp only at er
        rw [if_neg (by decide)] at er
        have hd := h3.rev_all (by omega : m ≤ p.size)
        obtain ⟨t1, t2, t3, t4⟩ := krun_part O (p := kas_rev p 0 m) (m := m) (n := n) (by rw [rev_size]; exact hn) (by omega) (by omega) hd (by
          rw [rev_at (by omega), rev_at (by omega), if_neg (by omega), if_pos ⟨by omega, by omega⟩, show 0 + m - 1 - (m - 1) = 0 by omega]
          cases h : c (at0 p m) (at0 p 0) with
          | true => rfl
          | false => have := O.tr _ _ _ e1 h; rw [st] at this; cases this) r er
        exact ⟨by rw [t1, rev_size], t2, t3, t4⟩
    · rw [if_neg h5] at er
      obtain rfl : m = 1 := by omega
      exact krun_part O hn (by omega) (by decide) (fun i j a b => absurd b (by omega)) st r er
theorem krun_place (O : Ordr c) {p : Array Nat} {k : Nat} (hu : Up c p k) : ∀ (f l r : Nat), r - l ≤ f → l ≤ r → r ≤ k → (∀ i, i < l → c (at0 p k) (at0 p i) = false) → (∀ i, r ≤ i → i < k → c (at0 p k) (at0 p i) = true) →
    krun c (kas_place p k f l r) ≤ k ∧ (∀ i, i < krun c (kas_place p k f l r) → c (at0 p k) (at0 p i) = false) ∧ (∀ i, krun c (kas_place p k f l r) ≤ i → i < k → c (at0 p k) (at0 p i) = true)
  | 0, l, r, hf, hl, hr, h1, h2 => by
    obtain rfl : l = r := by omega
    exact ⟨hr, h1, h2⟩
  | f + 1, l, r, hf, hl, hr, h1, h2 => by
    unfold kas_place
    by_cases h : l ≥ r
    · rw [if_pos h]
      obtain rfl : l = r := by omega
      exact ⟨hr, h1, h2⟩
    · rw [if_neg h]
      unfold krun
      cases e : c (p.getD k 0) (p.getD ((l + r) / 2) 0) with
      | true =>
        dsimp only
        rw [if_pos rfl]
        refine krun_place O hu f l ((l + r) / 2) (by omega) (by omega) (by omega) h1 fun i a b => ?_
        by_cases hi : i = (l + r) / 2
        · subst hi; exact e
        · cases q : c (at0 p k) (at0 p i) with
          | true => rfl
          | false => have := O.tr _ _ _ (hu ((l + r) / 2) i (by omega) b) q; rw [e] at this; cases this
      | false =>
        dsimp only
        rw [if_neg (by decide)]
        refine krun_place O hu f ((l + r) / 2 + 1) r (by omega) (by omega) hr (fun i a => ?_) h2
        by_cases hi : i = (l + r) / 2
        · subst hi; exact e
        · exact O.tr _ _ _ (hu i ((l + r) / 2) (by omega) (by omega)) e
theorem bub_at {p : Array Nat} {k d : Nat} (hk : k < p.size) (hd : d ≤ k) (i : Nat) : at0 (bubble p k d) i = if i = k - d then at0 p k else if k - d < i ∧ i ≤ k then at0 p (i - 1) else at0 p i := by
  have h := getElem?_bubble hk d hd i
  have e : ∀ q : Array Nat, ∀ k, at0 q k = (q[k]?).getD 0 := fun q k => by simp [at0, Array.getD]; split <;> simp [*]
  rw [e, e, e, e, h]
  split
  · rfl
  · split <;> rfl
theorem krun_bin (O : Ordr c) : ∀ (f : Nat) (p : Array Nat) (k : Nat), 0 < k → k + f ≤ p.size → Up c p k → Up c (krun c (kas_bin f p k)) (k + f)
  | 0, p, k, _, _, h => h
  | f + 1, p, k, h0, hs, hu => by
    unfold kas_bin
    rw [krun_bind]
    obtain ⟨a1, a2, a3⟩ := krun_place O hu k 0 k (by omega) (by omega) (Nat.le_refl _) (fun i z => absurd z (by omega)) (fun i z1 z2 => absurd z2 (by omega))
    generalize krun c (kas_place p k k 0 k) = l at *
    have hu2 : Up c (bubble p k (k - l)) (k + 1) := by
      intro i j hij hj
      rw [bub_at (by omega) (by omega), bub_at (by omega) (by omega), show k - (k - l) = l by omega]
      by_cases j1 : j = l
      · rw [if_pos j1, if_neg (by omega), if_neg (by omega)]
        exact a2 i (by omega)
      · rw [if_neg j1]
        by_cases j2 : l < j ∧ j ≤ k
        · rw [if_pos j2]
          by_cases i1 : i = l
          · rw [if_pos i1]
            exact O.asym _ _ (a3 (j - 1) (by omega) (by omega))
          · rw [if_neg i1]
            by_cases i2 : l < i ∧ i ≤ k
            · rw [if_pos i2]; exact hu _ _ (by omega) (by omega)
            · rw [if_neg i2]; exact hu _ _ (by omega) (by omega)
        · rw [if_neg j2, if_neg (by omega), if_neg (by omega)]
          exact hu _ _ hij (by omega)
    have := krun_bin O f (bubble p k (k - l)) (k + 1) (by omega) (by rw [bubble_size]; omega) hu2
    rw [show k + (f + 1) = k + 1 + f by omega]
    exact this
/-- the whole sort -/
theorem krun_sort (O : Ordr c) {n : Nat} (h0 : 0 < n) : Up c (krun c (kas_sort n)) n := by
  unfold kas_sort
  rw [krun_bind]
  obtain ⟨r1, r2, r3, r4⟩ := krun_count O (p := List.toArray (List.range n)) (n := n) (by simp) h0 _ rfl
  generalize krun c (kas_count n (List.toArray (List.range n))) = r at *
  have sz : r.2.size = n := by rw [r1]; simp
  by_cases h : r.1 < n
  · rw [if_pos h]
    have em : max r.1 1 = r.1 := by omega
    rw [em]
    have := krun_bin O (n - r.1) r.2 r.1 r2 (by omega) r4
    rw [show r.1 + (n - r.1) = n by omega] at this
    exact this
  · rw [if_neg h]
    have : r.1 = n := by omega
    rw [this] at r4
    exact r4
end
end L2
/-! ### sorted(xs), xs a list of tuples of ints of one length: the sorted list -/
namespace L2
open PySem PySem.Spec PyProof.Rows PySem.W
theorem Leaves.wpc {n : Nat} {c : Nat → Nat → Bool} {α : Type} {R : α → Prop} {cmp : Nat → Nat → (Bool → Shared → Prop) → Shared → Prop} {Q : α → Shared → Prop} {s : Shared} (hc : ∀ i j, i < n → j < n → ∀ C : Bool → Shared → Prop, C (c i j) s → cmp i j C s) : ∀ {t : KasT α}, (R (krun c t) → Q (krun c t) s) → Leaves n R t → t.kasWp cmp Q s
  | .ret a, hq, h => hq h
  | .ask i j k, hq, h => hc i j h.1 h.2.1 _ (Leaves.wpc hc (t := k (c i j)) hq (h.2.2 (c i j)))
theorem lexI_le : ∀ {xs ys zs : List Int}, xs.length = ys.length → ys.length = zs.length → lexI false ys xs = false → lexI false zs ys = false → lexI false zs xs = false
  | [], [], [], _, _, _, _ => rfl
  | x :: xs, y :: ys, z :: zs, h1, h2, a, b => by
    unfold lexI at a b ⊢
    by_cases e1 : y = x
    · rw [if_pos e1] at a
      by_cases e2 : z = y
      · rw [if_pos e2] at b
        rw [if_pos (e2.trans e1)]
        exact lexI_le (by simpa using h1) (by simpa using h2) a b
      · rw [if_neg e2] at b
        have := of_decide_eq_false b
        rw [if_neg (by omega)]
        exact decide_eq_false (by omega)
    · rw [if_neg e1] at a
      have a := of_decide_eq_false a
      by_cases e2 : z = y
      · rw [if_neg (by omega)]
        exact decide_eq_false (by omega)
      · rw [if_neg e2] at b
        have := of_decide_eq_false b
        rw [if_neg (by omega)]
        exact decide_eq_false (by omega)
theorem lexI_asym : ∀ {xs ys : List Int}, xs.length = ys.length → lexI false xs ys = true → lexI false ys xs = false
  | [], [], _, h => nomatch h
  | x :: xs, y :: ys, hl, h => by
    unfold lexI at h ⊢
    by_cases e : x = y
    · rw [if_pos e] at h
      rw [if_pos e.symm]
      exact lexI_asym (by simpa using hl) h
    · rw [if_neg e] at h
      have := of_decide_eq_true h
      rw [if_neg (by omega)]
      exact decide_eq_false (by omega)
theorem lexI_anti : ∀ {xs ys : List Int}, xs.length = ys.length → lexI false xs ys = false → lexI false ys xs = false → xs = ys
  | [], [], _, _, _ => rfl
  | x :: xs, y :: ys, hl, h, k => by
    unfold lexI at h k
    by_cases e : x = y
    · rw [if_pos e] at h
      rw [if_pos e.symm] at k
      rw [e, lexI_anti (by simpa using hl) h k]
    · rw [if_neg e] at h
      rw [if_neg (Ne.symm e)] at k
      have := of_decide_eq_false h
      have := of_decide_eq_false k
      omega
theorem ltI_same {xs ys : List Int} (h : xs.length = ys.length) : ltI xs ys = lexI false xs ys := by
  unfold ltI
  rw [decide_eq_false (by omega)]
def keyC (xss : List (List Int)) (i : Nat) : List Int := xss.getD i (xss.headD [])
def ordC (xss : List (List Int)) (i j : Nat) : Bool := ltI (keyC xss i) (keyC xss j)
theorem keyC_in {xss : List (List Int)} {i : Nat} (h : i < xss.length) : keyC xss i = xss.getD i [] := by
  unfold keyC
  rw [List.getD_eq_getElem?_getD, List.getD_eq_getElem?_getD, List.getElem?_eq_getElem h]
  rfl
theorem ordC_in {xss : List (List Int)} {i j : Nat} (hi : i < xss.length) (hj : j < xss.length) : ordC xss i j = ltI (xss.getD i []) (xss.getD j []) := by
  unfold ordC
  rw [keyC_in hi, keyC_in hj]
theorem keyC_len {xss : List (List Int)} {m : Nat} (h0 : 0 < xss.length) (h : ∀ xs ∈ xss, xs.length = m) (i : Nat) : (keyC xss i).length = m := by
  unfold keyC
  rw [List.getD_eq_getElem?_getD]
  cases e : xss[i]? with
  | some x => exact h x (List.mem_of_getElem? e)
  | none =>
    cases xss with
    | nil => cases h0
    | cons x xs => exact h x (by simp)
theorem ordr_of {xss : List (List Int)} {m : Nat} (h0 : 0 < xss.length) (h : ∀ xs ∈ xss, xs.length = m) : Ordr (ordC xss) := by
  have k := keyC_len h0 h
  refine ⟨fun a b e => ?_, fun a b d e1 e2 => ?_⟩
  · unfold ordC at e ⊢
    rw [ltI_same (by rw [k, k])] at e ⊢
    exact lexI_asym (by rw [k, k]) e
  · unfold ordC at e1 e2 ⊢
    rw [ltI_same (by rw [k, k])] at e1 e2 ⊢
    exact lexI_le (by rw [k, k]) (by rw [k, k]) e1 e2
/-- sorted, of a list of tuples of m ints: the sorted list -/
def rSortO : List V → Hp → VK → Prop := fun vs H Q => ∃ (v : V) (xss : List (List Int)) (m : Nat), vs = [v] ∧ Is H (.l (xss.map tI)) v ∧ 0 < m ∧ (∀ xs ∈ xss, xs.length = m) ∧ xss.length < 64 ∧
  ∀ (yss : List (List Int)) (q : Addr) (H' : Hp), yss.Perm xss → (∀ i j, i < j → j < yss.length → ltI (yss.getD j []) (yss.getD i []) = false) → H q = none → Same H H' → Is H' (.l (yss.map tI)) (.ref q) → Q (.ref q) H'
section
variable {prog : Program} {w : World} {A : Around} {E : Value → Shared → Prop} {s : Shared}
theorem sort_kasC {c : Nat → Nat → Bool} {kd : SortKind} {a : Addr} {vs : List Value} {n : Nat} {P : PySem.Fin → Shared → Prop} (ho : s.heap.get? a = some (seqObj "list" vs.toArray n)) (h2 : 2 ≤ vs.length) (h64 : vs.length < 64)
    (hkd : ∀ (R : SortKind → Shared → Prop), R kd { s with heap := sortIn s.heap a vs } → wpAny (model prog w) A (keyKind' vs.toArray) R E { s with heap := sortIn s.heap a vs })
    (hc : ∀ i j, i < vs.length → j < vs.length → ∀ C : Bool → Shared → Prop, C (c i j) { s with heap := sortIn s.heap a vs } → wpAny (model prog w) A (keyLt' kd (vs.getD i .none) (vs.getD j .none)) C (fun _ _ => False) { s with heap := sortIn s.heap a vs })
    (h : ∀ p, Ord vs.length p → p = krun c (kas_sort vs.length) → P (.done (.ret .none)) { s with heap := sortedHeap s.heap a vs (p.map fun i => vs.getD i .none) }) : wpAny (model prog w) A (Builtin.«list.sort» ⟨[.ref a], []⟩) P E s := by
  rw [list_sort_plain]
  have ha : a < s.heap.objs.size := Heap.lt_size ho
  refine wpAny_bind (listItems_at ho rfl ?_)
  refine wpAny_bind (listUpdate_at ho rfl ?_ (by rw [List.size_toArray, sizeLine_eq]; omega) (Nat.zero_le _))
  obtain ⟨e1, ho1⟩ : ∃ e1, (s.heap.update a (Obj.mapSeq fun _ => (#[] : Array Value))).get? a = some (seqObj "list" #[] e1) := ⟨_, get?_update_seq ho (fun _ => #[])⟩
  refine wpAny_bind (seqEpoch_at ho1 rfl ?_)
  refine wpAny_bind (wpAny_newTuple ?_ (by show vs.length ≤ _; rw [sizeLine_eq]; omega))
  refine wpAny_bind (wpAny_newList ?_ (Nat.zero_le _))
  refine wpAny_holding ?_
  have ho6 : (sortIn s.heap a vs).get? a = some (seqObj "list" #[] e1) := by
    rw [Heap.get?_push_ne _ _ _ (by rw [size_push', Heap.size_update]; exact Nat.ne_of_lt (Nat.lt_succ_of_lt ha)), Heap.get?_push_ne _ _ _ (by rw [Heap.size_update]; exact Nat.ne_of_lt ha)]
    exact ho1
  show wpAny (model prog w) A _ P E { s with heap := sortIn s.heap a vs }
  dsimp only
  have hn2 : ¬ vs.toArray.size < 2 := by rw [List.size_toArray]; omega
  rw [if_neg hn2, if_neg hn2]
  refine wpAny_bind (hkd _ ?_)
  have est : kas_st kd (pairsOf vs) (List.toArray (List.range vs.length)) = SortSt.mk' kd (vs.toArray.zip vs.toArray) #[] 7 none := by
    have e := kas_range (pairsOf vs)
    rw [pairsOf_size] at e
    show SortSt.mk' kd ((List.toArray (List.range vs.length)).map (kas_item (pairsOf vs))) #[] 7 none = SortSt.mk' kd (pairsOf vs) #[] 7 none
    rw [e]
  have ask : (kas_sort vs.length).kasWp (kas_cmp prog w A kd (pairsOf vs)) (fun p s' => s' = { s with heap := sortIn s.heap a vs } ∧ Ord vs.length p ∧ p = krun c (kas_sort vs.length)) { s with heap := sortIn s.heap a vs } := by
    refine Leaves.wpc (c := c) (fun i j hi hj C hC => ?_) (fun hp => ⟨rfl, hp, rfl⟩) (lv_sort (by omega))
    rw [← kas_ask_eq]
    exact hc i j hi hj C hC
  have run := kas_runs (E := E) (Q := fun _ st' s' => ∃ p, s' = { s with heap := sortIn s.heap a vs } ∧ (Ord vs.length p ∧ p = krun c (kas_sort vs.length)) ∧ arrOf st' = p.map (kas_item (pairsOf vs)) ∧ failedOf st' = none) h2 h64 (fun p' st' s' _ a2 a3 a4 => ⟨p', a4.1, a4.2, a2, a3⟩) ask
  rw [est] at run
  refine wpAny_bind (wpAny_mono run ?_ fun _ _ e => e)
  rintro ⟨⟨⟩, st'⟩ s' ⟨p, rfl, ⟨hp, hpc⟩, har, hf⟩
  dsimp only at har hf ⊢
  have eo : (arrOf st').map (·.2) = p.map fun i => vs.getD i .none := by
    rw [har, Array.map_map]
    refine Array.map_congr_left fun i _ => ?_
    show (kas_item (pairsOf vs) i).2 = _
    rw [kas_item_eq]
  rw [eo]
  refine wpAny_bind (seqEpoch_at ho6 rfl ?_)
  refine wpAny_bind (listUpdate_at ho6 rfl ?_ (Nat.zero_le _) (by rw [Array.size_map, sizeLine_eq, hp.size]; omega))
  rw [hf]
  simp only [bne_self_eq_false, Bool.false_eq_true, if_false]
  exact wpAny_pure (h p hp hpc)
theorem sorted_kasC {c : Nat → Nat → Bool} {kd : SortKind} {l : Addr} {vs : List Value} {Q : Value → Shared → Prop} (hl : s.heap.IsList l vs.toArray) (h2 : 2 ≤ vs.length) (h64 : vs.length < 64)
    (hkd : ∀ (R : SortKind → Shared → Prop) (E : Value → Shared → Prop), R kd { s with heap := sortedIn s.heap vs } → wpAny (model prog w) A.in1.in1 (keyKind' vs.toArray) R E { s with heap := sortedIn s.heap vs })
    (hc : ∀ i j, i < vs.length → j < vs.length → ∀ C : Bool → Shared → Prop, C (c i j) { s with heap := sortedIn s.heap vs } → wpAny (model prog w) A.in1.in1 (keyLt' kd (vs.getD i .none) (vs.getD j .none)) C (fun _ _ => False) { s with heap := sortedIn s.heap vs })
    (h : ∀ p, Ord vs.length p → p = krun c (kas_sort vs.length) → Q (.ref (s.heap.objs.size + 1)) { s with heap := sortedAll s.heap vs (p.map fun i => vs.getD i .none) }) : wpAny (model prog w) A (call (.builtin "sorted") [.ref l]) Q E s := by
  refine Calls.call_function_entry kind_sorted plain_sorted entry_sorted (args_sorted1 _) ?_
  unfold Builtin.«sorted»
  refine wpAny_bind (m := checkCount "sorted" 1 1 _) (wpAny_pure ?_)
  refine wpAny_bind (collect_list hl ?_ (by rw [sizeLine_eq]; omega))
  refine wpAny_bind (wpAny_newList ?_ (by rw [sizeLine_eq]; omega))
  have hsz : ((s.heap.push (seqObj "list" #[] 0)).update s.heap.objs.size (Obj.mapSeq (· ++ vs.toArray))).objs.size = s.heap.objs.size + 1 := by
    rw [Heap.size_update, size_push']
  have hoL : (((s.heap.push (seqObj "list" #[] 0)).update s.heap.objs.size (Obj.mapSeq (· ++ vs.toArray))).push (seqObj "list" vs.toArray 0)).get? (s.heap.objs.size + 1) = some (seqObj "list" vs.toArray 0) := by
    rw [← hsz]; exact Heap.get?_push_size _ rfl
  show wpAny _ _ _ _ _ { s with heap := ((s.heap.push (seqObj "list" #[] 0)).update s.heap.objs.size (Obj.mapSeq (· ++ vs.toArray))).push (seqObj "list" vs.toArray 0) }
  rw [hsz]
  refine wpAny_bind (wpAny_holding (wpAny_call_entry slot_list_sort ⟨_, hoL, rfl⟩ entry_list_sort (sort_kasC (c := c) (s := { s with heap := ((s.heap.push (seqObj "list" #[] 0)).update s.heap.objs.size (Obj.mapSeq (· ++ vs.toArray))).push (seqObj "list" vs.toArray 0) }) hoL h2 h64 (fun R => hkd R _) hc fun p hp hpc => ⟨_, rfl, ?_⟩) (args_list_sort _)))
  exact wpAny_pure ⟨_, rfl, h p hp hpc⟩
end
section
variable {X : Cx} {pins : List (Addr × Obj)} {σ : St} {H : Hp} {s : Shared}
theorem call_sortO : CallR X (.builtin "sorted") rSortO := by
  intro pins s σ H xs us Q I r h
  obtain ⟨v, xss, m, rfl, hv, hm, hne', hlen, q⟩ := h
  have hne : ∀ xs ∈ xss, xs ≠ [] := fun xs hx z => by have := hne' xs hx; rw [z] at this; exact absurd this (by show ¬ 0 = m; omega)
  obtain ⟨l, rs, rfl, hl, hi⟩ := of_l hv
  have hrs : rs.length = xss.length := by rw [hi.length, List.length_map]
  obtain ⟨u, rfl, rx⟩ := vals1 r
  cases rx
  obtain ⟨its, r', pl, hz⟩ := I.list (SqL.of (K := X.K) hl)
  have ln := r'.length
  by_cases h2 : rs.length < 2
  · refine sorted_few (vs := its) pl.isList (by omega) ?_
    obtain ⟨e, he⟩ := sortedAll_at s.heap its its.toArray
    have fr := I.hok.fresh (a := s.heap.objs.size + 1) (Nat.le_succ _)
    exact ⟨.ref (s.heap.objs.size + 1), _, I.laid (t' := s.toks) (fun _ _ => sortedAll_old) (Nat.le_succ _) (show ObjOk X.prog X.w _ _ _ (.lst rs) from ⟨hz, its, e, r', he⟩), rfl, q xss _ _ (List.Perm.refl _) (fun i j a b => absurd b (by omega)) fr (Same.new fr) (is_l upd_same (hi.mono (Same.new fr)))⟩
  · have I2 : Inv X pins σ H { s with heap := sortedIn s.heap its } := I.kept (t' := s.toks) fun b o e => sortedIn_old e
    have lns : its.length = xss.length := by omega
    refine sorted_kasC (c := ordC xss) (kd := tuples' true) (vs := its) pl.isList (by omega) (by omega) (fun R E hR => ?_) (fun i j hi' hj' C hC => ?_) fun p ho hpc => ?_
    · obtain ⟨fs, k1, k2, k3⟩ := kat_tups I2 hi r' hne
      exact kat_kind (T := .type "int") k1 (by omega) (fun f hf => by obtain ⟨z, t, rfl⟩ := k3 f hf; exact .now) rfl hR
    · have g : ∀ i, i < xss.length → ∃ a, its.getD i .none = .ref a ∧ SqT X.K H a ((xss.getD i []).map V.int) := fun i h => by
        have hr : i < rs.length := by omega
        obtain ⟨d, hd, h1⟩ := hi.of_get (List.getElem?_eq_getElem hr)
        rw [List.getElem?_map, List.getElem?_eq_getElem h] at hd
        cases hd
        obtain ⟨a, ea, ha⟩ := of_tI h1
        obtain ⟨u, hu1, ru⟩ := r'.get (List.getElem?_eq_getElem hr)
        rw [ea] at ru
        obtain rfl : u = Value.ref a := ru
        refine ⟨a, ?_, ?_⟩
        · rw [List.getD_eq_getElem?_getD, hu1]; rfl
        · rw [List.getD_eq_getElem?_getD, List.getElem?_eq_getElem h]
          exact SqT.of ha
      obtain ⟨a1, e1, s1⟩ := g i (by omega)
      obtain ⟨a2, e2, s2⟩ := g j (by omega)
      rw [e1, e2]
      rw [ordC_in (by omega) (by omega)] at hC
      exact key_ints I2 s1 s2 hC
    · rw [lns] at ho hpc
      have hpl : ∀ i ∈ p.toList, i < xss.length := fun i hi => ho.lt hi
      obtain ⟨e, he⟩ := sortedAll_at s.heap its (p.map fun i => its.getD i .none)
      have en : (p.map fun i => its.getD i .none) = List.toArray (p.toList.map fun i => its.getD i .none) := by
        apply Array.toList_inj.mp
        simp
      rw [en] at he ⊢
      have fr := I.hok.fresh (a := s.heap.objs.size + 1) (Nat.le_succ _)
      refine ⟨.ref (s.heap.objs.size + 1), _, I.laid (t' := s.toks) (fun _ _ => sortedAll_old) (Nat.le_succ _) (show ObjOk X.prog X.w _ _ _ (.lst (p.toList.map fun i => rs.getD i .non)) from ⟨?_, _, e, vals_getD r' p.toList (fun i hi => by rw [hrs]; exact hpl i hi), he⟩), rfl, q (p.toList.map fun i => xss.getD i []) _ _ ?_ ?_ fr (Same.new fr) (is_l upd_same ((iss_getD hi p.toList hpl).mono (Same.new fr)))⟩
      · rw [List.length_map, Array.length_toList, sizeLine_eq, ho.size]
        omega
      · have pp := (Array.perm_iff_toList_perm.mp ho).map fun i => xss.getD i []
        rw [show (List.range xss.length).toArray.toList = List.range xss.length from rfl, map_getD] at pp
        exact pp
      · intro i j hij hj
        rw [List.length_map, Array.length_toList, ho.size] at hj
        have up := krun_sort (ordr_of (xss := xss) (m := m) (by omega) hne') (n := xss.length) (by omega) i j hij hj
        rw [← hpc] at up
        have g : ∀ i, i < xss.length → (p.toList.map fun i => xss.getD i []).getD i [] = xss.getD (at0 p i) [] ∧ at0 p i < xss.length := fun i h => by
          have hs : i < p.size := by rw [ho.size]; exact h
          have e : at0 p i = p[i] := by simp [at0, Array.getD, hs]
          rw [e]
          refine ⟨?_, ho.lt (by simp)⟩
          rw [List.getD_eq_getElem?_getD, List.getElem?_map]
          simp [hs]
        obtain ⟨g1, g2⟩ := g i (by omega)
        obtain ⟨g3, g4⟩ := g j hj
        rw [g1, g3]
        rw [ordC_in g4 g2] at up
        exact up
end
end L2
/-! ### texts read: int(text), startswith, split -/
namespace L2
open PySem PySem.Spec PyProof.Rows PyProof PySem.Builtin PySem.Builtin.Str
theorem strVals_of : ∀ (l : List (Str × Tok)), Vals ((l.map (·.1)).map V.str) (strValues l)
  | [] => .nil
  | (z, t) :: l => .cons ⟨t, rfl⟩ (strVals_of l)
section
variable {X : Cx}
theorem call_int_txt : CallR X (.type "int") (fun xs H Q => ∃ (z : Str) (n : Int), xs = [.str z] ∧ PySem.intText? z = some n ∧ z.length ≤ 640 ∧ Q (.int n) H) := by
  intro pins s σ H xs us Q I r h
  obtain ⟨z, n, rfl, hn, hl, q⟩ := h
  obtain ⟨u, rfl, rx⟩ := vals1 r
  obtain ⟨t, rfl⟩ := rx
  exact PySem.W.KIN.call_text hn hl ⟨.int n, H, I.tok _, ⟨_, rfl⟩, q⟩
theorem mt_starts : MtR X "str.startswith" (fun o vs H Q => ∃ x y : Str, o = .str x ∧ vs = [.str y] ∧ Q (.bl (Txt.startswith x y)) H) := by
  intro pins s σ H x vs v us Q I rx rv h
  obtain ⟨x, y, rfl, rfl, q⟩ := h
  obtain ⟨t, rfl⟩ := rx
  obtain ⟨u2, rfl, r2⟩ := rv.one
  obtain ⟨t2, rfl⟩ := r2
  exact SC.startswith ⟨.bl _, H, I, rfl, q⟩
/-- the list that x.split(y) makes -/
theorem split_new {prog : Program} {w : World} {A : Around} {E : Value → Shared → Prop} {s : Shared} {x y : Str} {t u : Tok} {Q : Value → Shared → Prop} (hy : (y.length == 0) = false)
    (q : ∀ (l : List (Str × Tok)) (k : Nat), l.map (·.1) = Txt.split x y → Q (.ref s.heap.objs.size) { s with heap := s.heap.push (seqObj "list" (strValues l).toArray 0), toks := k })
    (z1 : x.length ≤ sizeLine) (z3 : (Txt.split x y).length ≤ sizeLine) : wpAny (model prog w) A (call (.builtin "str.split") [.str x t, .str y u]) Q E s := by
  cases c1 : (decide (x.length < y.length) || decide (strKind x < strKind y)) with
  | true => exact call_meets F.slot_str_split (typeIs_str _ _ _) F.entry_str_split (F.args_str_split_2 _ _) (meets_str_split_cannot_occur x y t u c1) (q [(x, t)] s.toks (if_pos c1).symm)
  | false =>
    cases c2 : (occurrences x y 0 x.length (x.length + 1)).isEmpty with
    | true => exact call_meets F.slot_str_split (typeIs_str _ _ _) F.entry_str_split (F.args_str_split_2 _ _) (meets_str_split_not_found x y t u c1 hy c2) (q [(x, t)] s.toks ((if_neg (ne_true_of_eq_false c1)).trans (if_pos c2)).symm)
    | false =>
      have z2 : (partsBetween x (occurrences x y 0 x.length (x.length + 1)) y.length).length ≤ sizeLine := ((if_neg (ne_true_of_eq_false c1)).trans (if_neg (ne_true_of_eq_false c2)) : Txt.split x y = _) ▸ z3
      refine call_meets F.slot_str_split (typeIs_str _ _ _) F.entry_str_split (F.args_str_split_2 _ _) (meets_str_split_sep x y t u c1 hy c2 z1 z2) ?_
      have h := fun k => q (numbered s.toks (partsBetween x (occurrences x y 0 x.length (x.length + 1)) y.length)) k ((numbered_texts _ _).trans ((if_neg (ne_true_of_eq_false c1)).trans (if_neg (ne_true_of_eq_false c2))).symm)
      simp only [← strsFrom_eq] at h
      exact h _
def rSplit : V → List V → Hp → VK → Prop := fun o vs H Q => ∃ (x y : Str), o = .str x ∧ vs = [.str y] ∧ 0 < y.length ∧ x.length ≤ sizeLine ∧ (Txt.split x y).length ≤ sizeLine ∧ ∀ p H2, H p = none → Same H H2 → H2 p = some (.lst ((Txt.split x y).map V.str)) → Q (.ref p) H2
theorem mt_split : MtR X "str.split" rSplit := by
  intro pins s σ H x vs v us Q I rx rv h
  obtain ⟨x, y, rfl, rfl, hy, z1, z3, q⟩ := h
  obtain ⟨t, rfl⟩ := rx
  obtain ⟨u2, rfl, r2⟩ := rv.one
  obtain ⟨t2, rfl⟩ := r2
  refine split_new (by simp; omega) (fun l k hl => ?_) z1 z3
  have fr := I.hok.fresh (Nat.le_refl s.heap.objs.size)
  refine ⟨.ref s.heap.objs.size, _, I.laid (t' := k) (fun b o e => Heap.get?_push_of_some _ e) (Nat.le_refl _) (show ObjOk X.prog X.w _ _ _ (.lst ((Txt.split x y).map V.str)) from ⟨by rw [List.length_map]; exact z3, strValues l, 0, by rw [← hl]; exact strVals_of l, Heap.get?_push_size _ rfl⟩), rfl, q _ _ fr (Same.new fr) upd_same⟩
end
end L2
/-! ### over the signs of a text -/
namespace L2
open PySem PySem.Spec PyProof.Rows PyProof
/-- at turn i the sign i, a text of one -/
def Itx (x : Str) : It := ⟨fun i _ => i < x.cps.size, fun i H v H' => H' = H ∧ ∃ c, x.cps[i]? = some c ∧ v = .str ⟨#[c]⟩, fun i _ => i = x.cps.size⟩
theorem turn_txt {P : Program} {w : World} {K : PySem.W.Frag} {tg : Expr} (it : Addr) (x : Str) (t : Tok) : Turn P w K tg (Itx x) [it] it (fun i h => h.IsStrIter it "str_ascii_iterator" x t i) where
  mem := by simp
  obj := fun i h st b hb => by
    obtain rfl : b = it := by simpa using hb
    obtain ⟨o, e, c, d⟩ := st
    exact ⟨o, e, fun v z => by rw [d] at z; cases z⟩
  keep := fun i h h' st k => let ⟨o, ho, r⟩ := st; ⟨o, k it (by simp) o ho, r⟩
  item := by
    intro X hP hw hK hc i pins s σ H E I hf st hg
    subst hP hw hK
    obtain ⟨f0, f1, f2, f3, f4, f5⟩ := hf it (by simp)
    refine (Walks.strAscii (prog := X.prog) (w := X.w) (I.ok.hd hc) it x t).item i s _ _ hg st fun v h' tk hv st' kk => ?_
    obtain ⟨sg, u, hsg, rfl⟩ := hv
    have I1 : Inv X pins σ H { s with heap := h', toks := tk } := I.turned (fun b o hb e => kk b o (by simpa using hb) e) f0 f1 f3 f4 f5
    obtain ⟨o, e, c, d⟩ := id st'
    exact ⟨_, rfl, go_of (s := { s with heap := h', toks := tk }) e c d (by decide) ⟨.str ⟨#[sg]⟩, H, I1, ⟨u, rfl⟩, ⟨rfl, sg, hsg, rfl⟩, st', fun b hb => (hf b hb).1⟩⟩
  done := by
    intro X hP hw hK hc i pins s σ H E I hf st hg
    subst hP hw hK
    obtain ⟨f0, f1, f2, f3, f4, f5⟩ := hf it (by simp)
    have e : i = x.cps.size := hg
    subst e
    exact (Walks.strAscii (prog := X.prog) (w := X.w) (I.ok.hd hc) it x t).done s _ _ st fun h' tk kk => ⟨rfl, I.turned (fun b o hb e => kk b o (by simpa using hb) e) f0 f1 f3 f4 f5⟩
  self := fun _ _ _ _ _ st h => wpAny_pyIter_striter_ascii st h
section
variable {X : Cx} {tg : Expr}
def iTxt (tl : TE) : TI := fun σ H R => tl σ H fun x H1 => ∃ z : Str, x = .str z ∧ z.cps.all (· < 128) = true ∧ R (Itx z) H1
theorem pi_txt {l : Expr} {tl : TE} (hl : PE X l tl) : PI X tg l (iTxt tl) := by
  intro pins s σ H R I h
  refine thn (hl pins s σ H _ I h) fun v s1 ⟨x, H1, I1, r1, q1⟩ => ?_
  obtain ⟨z, e, ha, q⟩ := q1
  subst e
  obtain ⟨t, rfl⟩ := r1
  refine wpAny_pyIter_ascii ha ?_
  refine ⟨s1.heap.objs.size, [s1.heap.objs.size], _, _, H1, rfl, I1.kept (t' := s1.toks) fun b o e => Heap.get?_push_of_some _ e, turn_txt _ z t, ⟨_, Heap.get?_push_size _ rfl, rfl, rfl⟩, fun b hb => ?_, q⟩
  obtain rfl : b = s1.heap.objs.size := by simpa using hb
  exact I1.fpOk (Nat.le_refl _) (I1.hok.fresh (Nat.le_refl _))
end
/-- a comprehension over the signs of a text -/
theorem comp_txt {x : Str} {own : Nat} {js : List Nat} {g : TG} {ti : TT} {te : TE} {σ : St} {H1 : Hp} {acc : Addr} {Q : VK} (Pv : Nat → Hp → Prop) (h0 : Pv 0 (upd H1 acc (.lst [])))
    (hs : ∀ i c H2, x.cps[i]? = some c → Pv i H2 → g (.str ⟨#[c]⟩) (capt own js σ) H2 fun σ4 H4 => ti σ4 H4 fun b H5 => if b = true then te σ4 H5 fun y H6 => rAppend (.ref acc) [y] H6 fun _ H7 => Pv (i + 1) H7 else Pv (i + 1) H5) (hd : ∀ H2, Pv x.cps.size H2 → Q (.ref acc) H2)
    (mono : ∀ σ H (R R' : St → Hp → Prop) x, (∀ σ' H', R σ' H' → R' σ' H') → g x σ H R → g x σ H R') (monoT : ∀ σ H (R R' : Bool → Hp → Prop), (∀ b H', R b H' → R' b H') → ti σ H R → ti σ H R') (monoE : ∀ σ H (R R' : VK), (∀ v H', R v H' → R' v H') → te σ H R → te σ H R') :
    CompW (Itx x) own js g ti te σ H1 acc Q := by
  refine ⟨fun i m H2 => m = x.cps.size - i ∧ i ≤ x.cps.size ∧ Pv i H2, ⟨x.cps.size, by simp, Nat.zero_le _, h0⟩, ?_⟩
  rintro i m H2 ⟨rfl, hi, p⟩
  by_cases hlt : i < x.cps.size
  · refine .inr ⟨hlt, fun v H3 y => ?_⟩
    obtain ⟨e1, c, hc, e2⟩ := y
    subst e1 e2
    refine mono _ _ _ _ _ (fun σ4 H4 q => monoT _ _ _ _ (fun b H5 q => ?_) q) (hs i c _ hc p)
    cases b with
    | true =>
      refine monoE _ _ _ _ (fun v H6 q => ?_) q
      obtain ⟨l, xs, y, a1, a2, a3, a4, a5⟩ := q
      exact ⟨l, xs, y, a1, a2, a3, a4, x.cps.size - (i + 1), by omega, rfl, hlt, a5⟩
    | false => exact ⟨x.cps.size - (i + 1), by omega, rfl, hlt, q⟩
  · have e : i = x.cps.size := by omega
    subst e
    exact .inl ⟨rfl, hd H2 p⟩
end L2
/-! ### a comprehension over a tuple; isinstance in one -/
namespace L2
open PySem PySem.Spec PyProof.Rows
section
variable {X : Cx} {K : PySem.W.Frag}
end
end L2
/-! ### try: .. except C as n: .. with the names kept -/
namespace L2
open PySem PySem.Spec PyProof.Rows PySem.W
section
variable {X : Cx} {pins : List (Addr × Obj)} {σ : St} {H : Hp} {s : Shared}
end
section
variable {X : Cx} {k : Nat} {f : Addr} {fd : FuncData} {ps : List Str} {sp : Sp} {dvs : List V} {ds : List Value} {x : Str} {p pos pos' : Pos} {e : Expr} {es : List Expr} {t : TA}
end
end L2
/-! ### texts cut and compared -/
namespace L2
open PySem PySem.Spec PyProof.Rows PyProof PySem.Builtin PySem.Builtin.Str
section
variable {X : Cx}
theorem op_ge_str : OpR X (compareOp .GtE) (fun x y H Q => ∃ i j, x = .str i ∧ y = .str j ∧ Q (.bl (!decide (i.cps.toList < j.cps.toList))) H) := by
  intro pins s σ H x y v u Q I rx ry h
  obtain ⟨i, j, rfl, rfl, q⟩ := h
  obtain ⟨t, rfl⟩ := rx
  obtain ⟨t', rfl⟩ := ry
  exact PySem.P.ge_str (fin_bl I q rfl)
/-- s[lo:hi] of a text -/
def rSlS : V → Option Int → Option Int → Hp → VK → Prop := fun x lo hi H Q => ∃ z : Str, x = .str z ∧ z.length ≤ sizeLine ∧ Q (.str (Txt.slice z lo hi)) H
theorem sl_str : SlR X rSlS := by
  intro pins s σ H x v vl vu lo hi sl Q I rx hs pl pu h
  obtain ⟨z, rfl, hz, q⟩ := h
  obtain ⟨t, rfl⟩ := rx
  refine ⟨"str", _, F.slot_str_getitem.lookup, typeIs_str _ _ _, ?_⟩
  cases pl with
  | none =>
    cases pu with
    | none => exact wpAny_getItem_str_slice (l := none) (u := none) (st := none) hs rfl (post_val_or_str ⟨Nat.le_trans (Txt.slice_le z _ _) hz, fun t' k => ⟨.str _, H, I.tok _, ⟨_, rfl⟩, q⟩⟩)
    | int j uj => exact wpAny_getItem_str_slice (l := none) (u := some (j, uj)) (st := none) hs rfl (post_val_or_str ⟨Nat.le_trans (Txt.slice_le z _ _) hz, fun t' k => ⟨.str _, H, I.tok _, ⟨_, rfl⟩, q⟩⟩)
  | int i ui =>
    cases pu with
    | none => exact wpAny_getItem_str_slice (l := some (i, ui)) (u := none) (st := none) hs rfl (post_val_or_str ⟨Nat.le_trans (Txt.slice_le z _ _) hz, fun t' k => ⟨.str _, H, I.tok _, ⟨_, rfl⟩, q⟩⟩)
    | int j uj => exact wpAny_getItem_str_slice (l := some (i, ui)) (u := some (j, uj)) (st := none) hs rfl (post_val_or_str ⟨Nat.le_trans (Txt.slice_le z _ _) hz, fun t' k => ⟨.str _, H, I.tok _, ⟨_, rfl⟩, q⟩⟩)
end
end L2
/-! ### a comprehension whose element may raise -/
namespace L2
open PySem PySem.Spec PyProof.Rows
/-- an exception that is traced, with any mark -/
def TrM (B : Heap) (l : List Env) (e : Addr) (cls a0 mk : Value) (h : Heap) : Prop := B.StaysIn h ∧ B.get? e = none ∧ h.FunFrames B l ∧ h.TracedAtW B e cls a0 mk
section
variable {M : Model} {A : Around} {E : Value → Shared → Prop} {s : Shared} {base : Heap} {env : Env} {outer l : List Env} {L e : Addr} {cls a0 mk : Value}
theorem leaves_any {Q : Unit → Shared → Prop} (hfr : A.frames = some (env :: outer)) (hf : env.frame = some L) (hh : TrM base (env :: outer) e cls a0 mk s.heap)
    (hQ : ∀ h', Heap.FlyingW base outer e cls a0 h' → s.heap.UpToSlots h' → Q () { s with heap := h' }) : wpAny M A (leaving env (.ref e)) Q E s := by
  obtain ⟨f1, f2, f3, f4⟩ := hh
  have f4' := f4
  obtain ⟨oe, vs, T, oT, ts, he, ⟨hcls, h0⟩, hd, h1, hnT, hTe, hT, hdT, h3⟩ := f4
  by_cases hm : (mk == rawInt L) = true
  · unfold leaving
    refine wpAny_bind ?_
    unfold noteFrame
    simp only [hf]
    refine wpAny_bind (wpAny_field he hd h1 ?_)
    rw [if_pos (show (Value.ref T != Value.none) = true from by simp)]
    refine wpAny_bind (wpAny_field hT hdT h3 ?_)
    rw [if_pos hm]
    refine wpAny_pure (wpAny_setFlight_noneW f1 f3 f4' fun h' k1 k2 k3 k4 => hQ h' ⟨k1, f2, k2.2.2, k3⟩ fun b o hb hn => ⟨o.slots, k4 b o hb hn⟩)
  · subst hcls
    unfold leaving noteFrame
    simp only [hf]
    refine wpAny_bind (wpAny_bind (wpAny_field he hd h1 ?_))
    rw [if_pos (show (Value.ref T != Value.none) = true from by simp)]
    refine wpAny_bind (wpAny_field hT hdT h3 ?_)
    rw [if_neg hm]
    refine wpAny_bind (wpAny_setField hT hdT (Array.getElem?_eq_some_iff.mp h3).1 ?_)
    have other : ∀ b, b ≠ T → (s.heap.update T (Obj.mapFields (·.setIfInBounds 3 Value.none))).get? b = s.heap.get? b := fun b hb => Heap.get?_update_other _ _ (Ne.symm hb)
    have nr : ∀ b o, s.heap.get? b = some o → (∀ vs, o.data ≠ .fields vs) → b ≠ T := fun b o hb hn q => by
      rw [q, hT] at hb
      cases hb
      exact hn ts hdT
    refine wpAny_newEntryW hfr (f3.of_keeps fun b o hb hn => ⟨o, (other b (nr b o hb hn)).trans hb, rfl⟩) hf ((other e (Ne.symm hTe)).trans he)
      (fun b o hb => (other b fun q => by rw [q, hnT] at hb; cases hb).trans (f1 b o hb)) f2 hd (Array.getElem?_eq_some_iff.mp h1).1 h0 fun h' ⟨x1, x2, x3, x4⟩ => ?_
    exact hQ h' ⟨x1, f2, x2.2.2, x3⟩ fun b o hb hn => x4 b o ((other b (nr b o hb hn)).trans hb) hn
theorem passes_on {what : String} {env' : Env} (hh : TrM base l e cls a0 mk s.heap) (hQ : ∀ h' mk', TrM base l e cls a0 mk' h' → (∀ b o, s.heap.get? b = some o → (∀ vs, o.data ≠ .fields vs) → h'.get? b = some o) → E (.ref e) { s with heap := h' }) :
    wpAny M A (PySem.passOn what (.ref e) env' : Sem Value) (fun _ _ => False) E s := by
  obtain ⟨f1, f2, f3, f4⟩ := hh
  obtain ⟨oe, vs, T, oT, ts, he, hcls, hd, h1, hnT, hTe, hT, hdT, h3⟩ := f4
  have hsz : 3 < ts.size := (Array.getElem?_eq_some_iff.mp h3).1
  have other : ∀ b v, b ≠ T → (s.heap.update T (Obj.mapFields (·.setIfInBounds 3 v))).get? b = s.heap.get? b := fun b v hb => Heap.get?_update_other _ _ (Ne.symm hb)
  have nr : ∀ b o, s.heap.get? b = some o → (∀ vs, o.data ≠ .fields vs) → b ≠ T := fun b o hb hn q => by
    rw [q, hT] at hb
    cases hb
    exact hn ts hdT
  unfold PySem.passOn
  refine wpAny_bind (wpAny_field he hd h1 ?_)
  rw [if_neg (show ¬ (Value.ref T == Value.none) = true from by simp)]
  unfold setFlight
  refine wpAny_bind (wpAny_bind (wpAny_field he hd h1 ?_))
  rw [if_pos (show (Value.ref T != Value.none) = true from by simp)]
  refine wpAny_setField hT hdT hsz (wpAny_throw (hQ _ (env'.frame.elim .none fun f => rawInt f) ⟨fun b o hb => (other b _ fun q => by rw [q, hnT] at hb; cases hb).trans (f1 b o hb), f2, f3.of_keeps fun b o hb hn => ⟨o, (other b _ (nr b o hb hn)).trans hb, rfl⟩,
    ⟨oe, vs, T, _, _, (other e _ (Ne.symm hTe)).trans he, hcls, hd, h1, hnT, hTe, Heap.get?_update_self _ hT (Obj.isFreed_of_fields (Obj.data_mapFields hdT _)), Obj.data_mapFields hdT _, by simp [hsz]⟩⟩ fun b o hb hn => (other b _ (nr b o hb hn)).trans hb))
end
theorem frames_of {h h' B B' : Heap} : ∀ {l : List Env}, h.FunFrames B l → (∀ b ∈ frs l, ∀ o, h.get? b = some o → h'.get? b = some o) → (∀ b, B.get? b = none → B'.get? b = none) → h'.FunFrames B' l
  | [], _, _, _ => trivial
  | env :: r, ⟨a1, ⟨L, o, a2, a3, a4, a5⟩, a6⟩, k, kb => ⟨a1, ⟨L, o, a2, kb L a3, k L (frs_in List.mem_cons_self a2) o a4, a5⟩, frames_of a6 (fun b hb => k b (by
      obtain ⟨e, he, hf⟩ := List.mem_filterMap.mp hb
      exact frs_in (List.mem_cons_of_mem _ he) hf)) kb⟩
/-- an exception that is traced already goes out of this body -/
def PassM (X : Cx) (E : XK) : Prop := ∀ (a C : Addr) (H' : Hp) (B : Heap) (a0 mk : Value) (s' : Shared), X.Ok → E (.ref C) none H' → s'.os = X.s₀.os → AllBare s'.gens → Un X.fs [] X.H₀ H' X.s₀.heap s'.heap → HOk X.prog X.w H' B → H' a = none → TrM B X.stack a (.ref C) a0 mk s'.heap →
  (∀ b o, X.s₀.heap.get? b = some o → X.H₀ b = none → b ∉ X.fs → B.get? b = some o) → (∀ b o, X.s₀.heap.get? b = some o → b ∉ X.fs → ∃ o', B.get? b = some o') → X.xe (.ref a) s'
section
variable {X : Cx} {pins : List (Addr × Obj)} {σ : St} {H2 : Hp} {s2 : Shared}
theorem passM_of {CX : CXT} {E : XK} (F : Fnc X) (hcx : CX = CX1 X.prog X.w) (hxe : X.xe = fun e s' => wpAny (model X.prog X.w) X.A (leaving X.env e) (fun _ s'' => CX X.outer X.H₀ X.s₀ E e s'') (fun e' s'' => CX X.outer X.H₀ X.s₀ E e' s'') s') : PassM X E := by
  intro a C H' B a0 mk s' ok hE os bare u hB hn tr kB tB
  subst hcx
  rw [hxe]
  rw [F.stk] at tr
  refine leaves_any (by rw [ok.frames, F.stk]) F.fr tr fun h'' fl up => ?_
  exact ⟨a, C, H', B, a0, rfl, hE, os, bare, un_fly u tr.2.2.1.2.2 kB tB fl.1 up, hB, hn, fl, kB, tB⟩
theorem post_err {M : Model} {A : Around} {E : Value → Shared → Prop} {use : Option (Value → Sem Unit)} {Q : Value → Shared → Prop} {acc x : Value} {C : Addr} {s' : Shared}
    (h : ∃ m, s'.heap.Ns C m ∧ ∀ h', Heap.SameBut C s'.heap h' → ∀ cenv : Env, cenv.locals = C → wpAny M A (PySem.passOn "comprehension.variables-let-go" x cenv : Sem Value) (fun _ _ => False) E { s' with heap := h' }) : compPost M A E use Q acc C (.error x) s' := by
  cases use <;> exact h
theorem comp_pass {E : XK} (F : Fnc X) (hM : PassM X E) (I2 : Inv X pins σ H2 s2) {C0 : Addr} (hC : s2.heap.objs.size ≤ C0) {fp : List Addr} (f2 : ∀ b ∈ fp, FpOk X pins H2 b) {scope : Scope} {N : List Str} {use : Option (Value → Sem Unit)} {RQ : Value → Shared → Prop} {acc : Value} {EE : Value → Shared → Prop}
    (hEE : EE = notedBy (model X.prog X.w) X.A (compEnvC scope (clOf X.env scope.names []) C0 X.env) (fun e s' => compPost (model X.prog X.w) X.A X.xe use RQ acc C0 (.error e) s')) : Passes (CX1 X.prog X.w) (X.comp scope C0 N s2 H2 fp EE) E := by
  intro pins' σ' H s e s' J hc
  obtain ⟨a, C, H', B, a0, rfl, hE, os, bare, u, hB, hn, fl, kB, tB⟩ := hc
  have ub : Un (frs X.stack) fp H2 H s2.heap s.heap := J.base
  have uc : Un (frs X.stack) [] H H' s.heap s'.heap := u
  have kB' : ∀ b o, s.heap.get? b = some o → H b = none → b ∉ frs X.stack → B.get? b = some o := kB
  have tB' : ∀ b o, s.heap.get? b = some o → b ∉ frs X.stack → ∃ o', B.get? b = some o' := tB
  have fl' : Heap.FlyingW B X.stack a (.ref C) a0 s'.heap := fl
  have hp := I2.fpOk (H' := fun _ => none) (b := C0) hC rfl
  have cs : C0 ∉ frs X.stack := fun z => by
    rcases List.mem_cons.mp (I2.stkSub C0 z) with q | q
    · exact hp.2.1 q
    · exact hp.2.2.1 q
  have hCn : H C0 = none := J.free
  obtain ⟨m, ⟨o, es, ep, ho, hd, r⟩, _⟩ := J.loc
  have hBC : B.get? C0 = some o := kB' C0 o ho hCn cs
  have hC' : H' C0 = none := uc.free C0 o ho hCn (by simp)
  show EE (.ref a) s'
  rw [hEE]
  show wpAny _ X.A (noteFrame (.ref a) X.env) _ _ s'
  refine wpAny_looks_onW (by rw [I2.ok.frames, F.stk]) F.fr (by rw [← F.stk]; exact fl') fun h'' hh up => post_err ?_
  rw [← F.stk] at hh
  refine ⟨m, ⟨o, es, ep, hh.1 C0 o hBC, hd, r⟩, fun h3 sb cenv' _ => ?_⟩
  have nC : ∀ b o', (PySem.W.hideAll B [C0]).get? b = some o' → b ≠ C0 := fun b o' q z => by
    rw [z, PySem.W.hideAll_none [C0] List.mem_cons_self] at q
    cases q
  have hid : ∀ b o', B.get? b = some o' → b ≠ C0 → (PySem.W.hideAll B [C0]).get? b = some o' := fun b o' q z => PySem.W.hideAll_get _ q (by simpa using z)
  have kb : ∀ b, B.get? b = none → (PySem.W.hideAll B [C0]).get? b = none := fun b q => by
    cases z : (PySem.W.hideAll B [C0]).get? b with
    | none => rfl
    | some o' => rw [PySem.W.of_hideAll _ z] at q; cases q
  have k3 : ∀ b o', h''.get? b = some o' → b ≠ C0 → h3.get? b = some o' := fun b o' q z => (sb.2 b z).trans q
  have t3 : TrM (PySem.W.hideAll B [C0]) X.stack a (.ref C) a0 (rawInt X.env.locals) h3 := by
    refine ⟨fun b o' q => k3 b o' (hh.1 b o' (PySem.W.of_hideAll _ q)) (nC b o' q), kb a hh.2.1, frames_of hh.2.2.1 (fun b hb o' q => k3 b o' q fun z => cs (z ▸ hb)) kb, ?_⟩
    obtain ⟨oe, vs, T, oT, ts, he, hcls, hd', h1, hnT, hTe, hT, hdT, h3'⟩ := hh.2.2.2
    exact ⟨oe, vs, T, oT, ts, k3 a oe he (fun z => by rw [← z, hh.2.1] at hBC; cases hBC), hcls, hd', h1, kb T hnT, hTe, k3 T oT hT (fun z => by rw [← z, hnT] at hBC; cases hBC), hdT, h3'⟩
  have hB' : HOk X.prog X.w H' (PySem.W.hideAll B [C0]) := fun b o' q => by
    refine (hB b o' q).stay (fun c v hc q' => hid c v q' fun z => ?_) (fun _ q' => q') fun _ _ q' => q'
    subst z
    rcases hc with rfl | hc
    · rw [hC'] at q; cases q
    · rw [hC'] at hc; cases hc
  refine passes_on (s := { s' with heap := h3 }) t3 fun h4 mk' t4 k4 => ?_
  have lt2 : ∀ b o', s2.heap.get? b = some o' → b ≠ C0 := fun b o' q => Nat.ne_of_lt (Nat.lt_of_lt_of_le (Heap.lt_size q) hC)
  have un : Un (frs X.stack) fp H2 H' s2.heap h4 := {
    keep := fun b o' q n hb hx => t4.1 b o' (hid b o' (kB' b o' (ub.keep b o' q n hb hx) (ub.free b o' q n hx) hb) (lt2 b o' q))
    slot := fun b o' q n hb hx => by
      obtain ⟨sl, e1⟩ := ub.slot b o' q n hb hx
      obtain ⟨sl', e2⟩ := uc.slot b _ e1 (ub.free b o' q n hx) hb (by simp)
      obtain ⟨_, o2, e3, hnf⟩ := fl'.2.2.1.mem hb
      rw [e2] at e3
      cases e3
      obtain ⟨sl2, e4⟩ := up b _ e2 hnf
      exact ⟨sl2, k4 b _ (k3 b _ e4 fun z => cs (z ▸ hb)) hnf⟩
    free := fun b o' q n hx => by
      obtain ⟨o1, e1⟩ := ub.there b o' q hx
      exact uc.free b o1 e1 (ub.free b o' q n hx) (by simp)
    there := fun b o' q hx => by
      obtain ⟨o1, e1⟩ := ub.there b o' q hx
      by_cases hb : b ∈ frs X.stack
      · obtain ⟨_, o2, e2, _⟩ := t4.2.2.1.mem hb
        exact ⟨o2, e2⟩
      · obtain ⟨o2, e2⟩ := tB' b o1 e1 hb
        exact ⟨o2, t4.1 b o2 (hid b o2 e2 (lt2 b o' q))⟩
    tups := fun b xs q => uc.tups b xs (ub.tups b xs q)
    frzs := fun b o' v q => uc.frzs b o' v (ub.frzs b o' v q)
    tbls := fun b ps q => by
      obtain ⟨m1, e1⟩ := ub.tbls b ps q
      obtain ⟨m2, e2⟩ := uc.tbls b _ e1
      exact ⟨m1 ++ m2, by rw [e2]; simp⟩ }
  have osJ : s.os = s2.os := J.os
  have I4 : Inv X pins σ H' { s' with heap := h4 } := I2.call' (ch := fp) (s' := { s' with heap := h4 }) (os.trans osJ) un (hB'.kept t4.1) bare fun b hb => by
    obtain ⟨a1, a2, a3, a4, a5, a6⟩ := f2 b hb
    exact ⟨a4, a2, a5, a6⟩
  have u0 : Un X.fs X.ex X.H₀ H' X.s₀.heap h4 := I4.base
  have nx : ∀ b : Addr, b ∉ X.ex := fun b => by rw [F.ex]; simp
  have nf : ∀ b o', X.s₀.heap.get? b = some o' → b ∉ fp := fun b o' q z => by
    rcases (f2 b z).2.2.2.1 with w | w
    · exact nx b w
    · exact absurd (Heap.lt_size q) (Nat.not_lt.mpr w)
  rw [F.ex] at u0
  refine hM a C H' _ a0 mk' _ I2.ok hE I4.os bare u0 hB' hn t4 (fun b o' q n hb => ?_) fun b o' q hb => ?_
  · have q2 := I2.base.keep b o' q n hb (nx b)
    have n2 := I2.base.free b o' q n (nx b)
    exact hid b o' (kB' b o' (ub.keep b o' q2 n2 (I2.nstk q hb) (nf b o' q)) (ub.free b o' q2 n2 (nf b o' q)) (I2.nstk q hb)) (lt2 b o' q2)
  · obtain ⟨o1, q1⟩ := I2.base.there b o' q (nx b)
    obtain ⟨o2, q2⟩ := ub.there b o1 q1 (nf b o' q)
    obtain ⟨o3, q3⟩ := tB' b o2 q2 (I2.nstk q hb)
    exact ⟨o3, hid b o3 q3 (lt2 b o1 q1)⟩
end
/-- THE RULE for a def that may raise within a comprehension -/
theorem Fun.okz {P : Program} {w : World} {K : PySem.W.Frag} {mg : Str → Option Value} {base : Heap} {x qual : Str} {st : Stmt} {f : Addr} {fd : FuncData} {N ps : List Str} {k : Nat} {sp : Sp} (F : Fun K x qual st f fd) (S : FnScope N ps (defScope st)) (len : ∀ vs H Q E, sp vs H Q E → vs.length = ps.length)
    (hbody : ∀ (cdv : Value) (A : Around) (outer : List Env) (s : Shared) (H : Hp) (vs : List V) (Q : VK) (E : XK), Room k (A.deeper (envOfC qual (defScope st) s.heap.objs.size f cdv)) → sp vs H Q E →
      Raises (cxOf (CX1 P w) P w K mg base N qual (defScope st) f cdv A outer s H E) E → Passes (CX1 P w) (cxOf (CX1 P w) P w K mg base N qual (defScope st) f cdv A outer s H E) E →
      Fnc (cxOf (CX1 P w) P w K mg base N qual (defScope st) f cdv A outer s H E) → PassM (cxOf (CX1 P w) P w K mg base N qual (defScope st) f cdv A outer s H E) E →
      ∃ t, PSs (cxOf (CX1 P w) P w K mg base N qual (defScope st) f cdv A outer s H E) (defBody st) t ∧ t { nx := fun _ H' => Q .non H', rt := Q } (start N vs) H) : FnOk P w K mg base (CX1 P w) (k + 1) f fd ps sp := by
  obtain ⟨oc, od, kV, doc, pm, an, cdv, ct, osl, rfl, lk, hcd⟩ := F.ex
  refine fn_of lk hcd S len fun A outer s H vs Q E hr hsp => ?_
  have Fn : Fnc (cxOf (CX1 P w) P w K mg base N qual (defScope st) f cdv A outer s H E) := ⟨rfl, rfl, rfl⟩
  exact hbody cdv A outer s H vs Q E hr hsp (raises_of Fn rfl rfl) (passes_of Fn rfl rfl) Fn (passM_of Fn rfl rfl)
theorem comp_coreR {X : Cx} {elt tg iter : Expr} {ifs : List Expr} {scope : Scope} {pos ps : Pos} {N : List Str} {own : Nat} {js : List Nat} {wi : TI} {g : TG} {ti : TT} {te : TE} {E : XK} (F : Fnc X) (hM : PassM X E) (hc : X.calm = true)
    (hcell : ∀ y ∈ scope.names, y.2 ≠ .cell) (hkind : scope.kind = .function) (hnames : ∀ y ∈ scope.names, y.2 = .local → scope.names.lookup y.1 = some .local)
    (hfree : ∀ y ∈ scope.names, y.2 = .free → X.env.kindOf y.1 = some .cell ∨ X.env.kindOf y.1 = some .free) (hlen : N.length = own + js.length)
    (hcap : ∀ (i j : Nat) (x : Str), js[i]? = some j → N[own + i]? = some x → X.N[j]? = some x ∧ (x, NameKind.free) ∈ scope.names ∧ (X.env.kindOf x = some .cell ∨ X.env.kindOf x = some .free) ∧ ((relabel scope X.env).names.lookup x = some .cell ∨ (relabel scope X.env).names.lookup x = some .free))
    (hi : PI X tg iter wi) (hg : ∀ C s₀ H₀ ex E', PG (X.comp scope C N s₀ H₀ ex E') tg g) (ho : OwnG own g) (ht : ∀ C s₀ H₀ ex E', PIfs (X.comp scope C N s₀ H₀ ex E') ifs ti) (he : ∀ C s₀ H₀ ex E', Passes (CX1 X.prog X.w) (X.comp scope C N s₀ H₀ ex E') E → PE (X.comp scope C N s₀ H₀ ex E') elt te)
    {pins : List (Addr × Obj)} {s : Shared} {σ : St} {H : Hp} {Q : VK} {use : Option (Value → Sem Unit)} {RQ : Value → Shared → Prop} (I : Inv X pins σ H s) (h : tComp own js wi g ti te σ H Q)
    (fin : ∀ (acc C : Addr) (H3 : Hp) (s4 : Shared) (m : Str → Option Value), Inv X pins σ H3 s4 → s4.heap.Ns C m → H3 C = none → C ≠ X.env.locals → C ∉ X.fs → X.s₀.heap.objs.size ≤ C → (∀ x c, X.env.cells.lookup x = some c → c ≠ C) → (∀ p ∈ X.pn ++ pins, p.1 ≠ C) →
      Q (.ref acc) H3 → compPost (model X.prog X.w) X.A X.xe use RQ (.ref acc) C (.ok .next) s4)
    (hs : ∀ x, foldedSetIterable iter X.env x = pure x := by intro _; rfl) :
    wpAny (model X.prog X.w) X.A (comprehension (.ListComp elt [⟨tg, iter, ifs, 0⟩] scope pos) scope X.env ps (newList []) false (eval iter X.env) use) RQ X.xe s := by
  have hcl : ∀ y ∈ scope.names, y.2 = .free → ∃ c, X.env.cells.lookup y.1 = some c := fun y hy hf => I.ok.has y.1 (hfree y hy hf)
  refine wpAny_comprehension_free (use := use) rfl hs (closure_is hcl) hkind hnames (thn (hi pins s σ H _ I h) fun v s1 h1 => thn h1 fun itv s2 h2 => ?_)
  obtain ⟨it, fp, tn, J, H2, e, I2, T, st2, f2, q⟩ := h2
  subst e
  have nf : H2 s2.heap.objs.size = none := I2.hok.fresh (Nat.le_refl _)
  obtain ⟨W, ⟨m0, w0⟩, turn⟩ := q s2.heap.objs.size nf
  refine wpAny_newObj_type (wpAny_newFunctionEnv hcell (by intro y hy; simp at hy) (fun h₁ hns₁ hsb₁ => ?_) hkind)
  dsimp only at hns₁ hsb₁ ⊢
  generalize hP2 : s2.heap.push { cls := .type "list", dict := none, data := .seq ([] : List Value).toArray } = P2 at hns₁ hsb₁ ⊢
  have hC : P2.objs.size = s2.heap.objs.size + 1 := by rw [← hP2, Heap.size_push]
  have hC1 : s2.heap.objs.size < P2.objs.size := by rw [hC]; exact Nat.lt_succ_self _
  have kp : ∀ b o, s2.heap.get? b = some o → h₁.get? b = some o := fun b o e => hsb₁.extBut b o (Nat.ne_of_lt (Nat.lt_trans (Heap.lt_size e) hC1)) (Heap.get?_push_of_some _ (hP2 ▸ Heap.get?_push_of_some _ e))
  have hacc : h₁.get? s2.heap.objs.size = some { cls := .type "list", dict := none, data := .seq ([] : List Value).toArray } := hsb₁.extBut _ _ (Nat.ne_of_lt hC1) (Heap.get?_push_of_some _ (hP2 ▸ Heap.get?_push_size _ rfl))
  have lkc : ∀ x c, (clOf X.env scope.names []).lookup x = some c → X.env.cells.lookup x = some c := fun x c e => clOf_lookup scope.names [] hcl (fun _ _ z => by simp at z) e
  have cne : ∀ x c, (clOf X.env scope.names []).lookup x = some c → c < s2.heap.objs.size ∧ H2 c = none := fun x c e => by
    obtain ⟨v, o, ho, hd⟩ := I2.cell x c (lkc x c e)
    exact ⟨Heap.lt_size ho, I2.freeC x c (lkc x c e)⟩
  have fpl : ∀ b ∈ fp, b < s2.heap.objs.size := fun b hb => by
    obtain ⟨o, e, _⟩ := T.obj 0 _ st2 b hb
    exact Heap.lt_size e
  generalize hEE : notedBy (model X.prog X.w) X.A (compEnvC scope (clOf X.env scope.names []) P2.objs.size X.env) (fun e s' => compPost (model X.prog X.w) X.A X.xe use RQ (.ref s2.heap.objs.size) P2.objs.size (.error e) s') = EE
  -- the block's invariant, as it starts
  have hX : (X.comp scope P2.objs.size N s2 H2 fp EE).Ok := {
    mod := I.ok.mod
    kind := hkind
    glob := I.ok.glob
    blt := I.ok.blt
    above := Nat.le_of_lt hC1
    inj := fun x y c a b => I.ok.inj x y c (lkc x c a) (lkc y c b)
    has := fun x hx => clOf_has scope.names [] (relabel_kind (scope := scope) (env := X.env) hx hcell)
    cab := fun x c a _ => by cases (show false = true from a)
    hd := I.ok.hd
    frames := I.ok.frames
    stk := .inl rfl
    exf := fun b hb => ⟨Nat.ne_of_lt (Nat.lt_trans (fpl b hb) hC1), fun x c a => (f2 b hb).2.2.2.2.1 x c (lkc x c a)⟩
    bs := I2.bs
    bsz := Nat.le_trans I.ok.bsz I2.sz
    noex := fun b o e hb => by
      rcases (f2 b hb).2.2.2.1 with z | z
      · exact I.ok.noex b o e z
      · exact absurd (Nat.lt_of_lt_of_le (Nat.lt_of_lt_of_le (Heap.lt_size e) I.ok.bsz) z) (Nat.lt_irrefl _)
    exfs := fun b hb z => by
      rcases List.mem_cons.mp (I2.stkSub b z) with z | z
      · exact (f2 b hb).2.1 z
      · exact (f2 b hb).2.2.1 z
    funs := I2.stack
    frf := I2.stkFree }
  have I3 : ∀ tk, Inv (X.comp scope P2.objs.size N s2 H2 fp EE) [] (capt own js σ) (upd H2 s2.heap.objs.size (.lst [])) { s2 with heap := h₁, toks := tk } := fun tk => {
    ok := hX
    os := rfl
    bare := I2.bare
    base := Un.laid kp (Nat.le_refl _) nf
    loc := ⟨_, hns₁, fun i x v a b c => by
      obtain ⟨hio, j, hj, hv⟩ := capt_some b
      obtain ⟨h3, h4, h5, h6⟩ := hcap (i - own) j x hj (by rw [show own + (i - own) = i by omega]; exact a)
      obtain ⟨m, hn, hl⟩ := I2.loc
      obtain ⟨u, ru, lk⟩ := hl j x v h3 hv (.inr h5)
      refine ⟨u, ru, .inr ⟨h6, ?_⟩⟩
      rcases lk with ⟨z, _⟩ | ⟨_, c0, z1, z2⟩
      · rcases h5 with h5 | h5 <;> (rw [h5] at z; cases z)
      · obtain ⟨c1, hc1⟩ := clOf_has (env := X.env) scope.names [] h4
        have := lkc x c1 hc1
        rw [z1] at this
        cases this
        obtain ⟨o, ho, hd⟩ := z2
        exact ⟨c0, hc1, o, kp _ _ ho, hd⟩⟩
    cell := fun x c a => by
      obtain ⟨v, o, ho, hd⟩ := I2.cell x c (lkc x c a)
      exact ⟨v, o, kp _ _ ho, hd⟩
    free := by
      show upd H2 _ _ P2.objs.size = none
      rw [upd_ne (Nat.ne_of_gt hC1)]
      exact I2.hok.fresh (Nat.le_of_lt hC1)
    freeC := fun x c a => by
      rw [upd_ne (Nat.ne_of_lt (cne x c a).1)]
      exact (cne x c a).2
    pin := fun p hp => absurd (show p ∈ ([] : List (Addr × Obj)) from hp) (by simp)
    hok := I2.hok.laid kp (Nat.le_refl _) ⟨Nat.zero_le _, [], 0, .nil, hacc⟩
    len := by rw [capt_length]; exact hlen.symm }
  have hP : Passes (CX1 X.prog X.w) (X.comp scope P2.objs.size N s2 H2 fp EE) E := by
    subst hEE
    exact comp_pass F hM I2 (Nat.le_of_lt hC1) f2 rfl
  have fr0 : ∀ b ∈ fp, upd H2 s2.heap.objs.size (.lst []) b = none := fun b hb => by
    rw [upd_ne (Nat.ne_of_lt (fpl b hb))]
    exact (f2 b hb).1
  have st3 : tn 0 h₁ := T.keep 0 _ _ st2 fun b _ o e => kp b o e
  have stat : ∀ {H' : Hp}, (∀ b ∈ fp, H' b = none) → ∀ b ∈ fp, FpOk (X.comp scope P2.objs.size N s2 H2 fp EE) [] H' b := fun hn b hb =>
    ⟨hn b hb, (hX.exf b hb).1, hX.exfs b hb, .inl hb, fun x c a => (hX.exf b hb).2 x c a, fun p hp => absurd (show p ∈ ([] : List (Addr × Obj)) from hp) (by simp)⟩
  have loop : ∀ s₃ : Shared, s₃ = { s2 with heap := h₁, toks := s2.toks + ([] : List (Str × Value)).length } →
      codeAny (model X.prog X.w) X.A (.compLoop (.ListComp elt [⟨tg, iter, ifs, 0⟩] scope pos) 0 (.ref it) (.ref s2.heap.objs.size) (compEnvC scope (clOf X.env scope.names []) P2.objs.size X.env))
        (compPost (model X.prog X.w) X.A X.xe use RQ (.ref s2.heap.objs.size) P2.objs.size) s₃ := by
    rintro s₃ rfl
    refine comp_loop (fun n s' => ∃ i H', Inv (X.comp scope P2.objs.size N s2 H2 fp EE) [] (capt own js σ) H' s' ∧ tn i s'.heap ∧ (∀ b ∈ fp, H' b = none) ∧ W i n H') ?_ m0 ⟨0, _, I3 _, st3, fr0, w0⟩
    rintro n s3 ⟨i, H3, J3, t3, fr3, w3⟩
    rw [hEE]
    rcases turn i n H3 w3 with ⟨stop, qd⟩ | ⟨go, step⟩
    · refine thn (T.done (X.comp scope P2.objs.size N s2 H2 fp EE) rfl rfl rfl hc i [] s3 _ H3 _ J3 (stat fr3) t3 stop) fun r s4 ⟨hr, J4⟩ => ?_
      subst hr
      obtain ⟨m, hn, _⟩ := J4.loc
      have B : Un (frs X.stack) fp H2 H3 s2.heap s4.heap := J4.base
      have I5 : Inv X pins σ H3 s4 := I2.call' J4.os B J4.hok J4.bare fun b hb => by
        obtain ⟨a1, a2, a3, a4, a5, a6⟩ := f2 b hb
        exact ⟨a4, a2, a5, a6⟩
      have hp := I2.fpOk (H' := H3) (b := P2.objs.size) (Nat.le_of_lt hC1) J4.free
      obtain ⟨a1, a2, a3, a4, a5, a6⟩ := hp
      exact fin s2.heap.objs.size P2.objs.size H3 s4 m I5 hn a1 a2 a3 (Nat.le_trans I2.sz (Nat.le_of_lt hC1)) a5 a6 qd
    · refine thn (T.item (X.comp scope P2.objs.size N s2 H2 fp EE) rfl rfl rfl hc i [] s3 _ H3 _ J3 (stat fr3) t3 go) fun r s4 ⟨u, hr, h4⟩ => ?_
      subst hr
      refine thn h4 fun _ s5 ⟨x, H5, J5, r5, y5, t5, fr5⟩ => ?_
      have J5' := J5.pinned (stat fr5) (T.obj _ _ t5)
      refine thn (hg _ _ _ _ _ _ s5 _ H5 x u _ J5' r5 (ho _ _ _ _ (step x H5 y5))) fun _ s6 ⟨σ6, H6, J6, q6, hl6, ho6⟩ => ?_
      have again : ∀ {s7 : Shared} {H7 : Hp}, Inv (X.comp scope P2.objs.size N s2 H2 fp EE) ([] ++ pinsAt fp s5.heap) σ6 H7 s7 → (∃ m', m' < n ∧ W (i + 1) m' H7) →
          ∃ m, m < n ∧ ∃ i H', Inv (X.comp scope P2.objs.size N s2 H2 fp EE) [] (capt own js σ) H' s7 ∧ tn i s7.heap ∧ (∀ b ∈ fp, H' b = none) ∧ W i m H' := fun {s7 H7} J7 z => by
        obtain ⟨m', hm, w7⟩ := z
        refine ⟨m', hm, i + 1, H7, J7.unpinned.weak (by rw [hl6]) (fun k v z => ?_), T.keep _ _ _ t5 fun b hb o e => (J7.pin (b, o) (List.mem_append_right _ (List.mem_append_right _ (mem_pinsAt hb e)))).1, fun b hb => ?_, w7⟩
        · rw [ho6 k (capt_some z).1]
          exact z
        · obtain ⟨o, e, d⟩ := T.obj _ _ t5 b hb
          exact (J7.pin (b, o) (List.mem_append_right _ (List.mem_append_right _ (mem_pinsAt hb e)))).2.1
      refine thn (ht _ _ _ _ _ _ s6 σ6 H6 _ J6 q6) fun ok s7 ⟨H7, J7, q7⟩ => ?_
      cases ok with
      | false => exact again J7 q7
      | true =>
        refine thn (he _ _ _ _ _ hP _ s7 σ6 H7 _ J7 q7) fun y s8 ⟨yv, H8, J8, r8, q8⟩ => ?_
        exact thn (mt_append _ s8 σ6 H8 (.ref s2.heap.objs.size) [yv] (.ref s2.heap.objs.size) [y] _ J8 rfl (.cons r8 .nil) q8) fun _ s9 ⟨_, H9, J9, _, q9⟩ => again J9 q9
  exact codeAny_compStart_list (loop _ rfl) (T.self X.A 0 _ _ _ st3 (loop _ rfl))

/-- name = [elt for tg in iter if ..] -/
theorem ps_setcR {X : Cx} {i : Nat} {y : Str} {py spos : Pos} {elt tg iter : Expr} {ifs : List Expr} {scope : Scope} {pos : Pos} {N : List Str} {own : Nat} {js : List Nat} {wi : TI} {g : TG} {ti : TT} {te : TE} {E : XK} (F : Fnc X) (hM : PassM X E) (hN : X.N.Nodup) (hi' : X.N[i]? = some y) (hy : Loc X.env.scope y) (hf : X.fn y = true ∨ X.env.scope.names.lookup y = some .local)
    (hc : X.calm = true)
    (hcell : ∀ y ∈ scope.names, y.2 ≠ .cell) (hkind : scope.kind = .function) (hnames : ∀ y ∈ scope.names, y.2 = .local → scope.names.lookup y.1 = some .local)
    (hfree : ∀ y ∈ scope.names, y.2 = .free → X.env.kindOf y.1 = some .cell ∨ X.env.kindOf y.1 = some .free) (hlen : N.length = own + js.length)
    (hcap : ∀ (i j : Nat) (x : Str), js[i]? = some j → N[own + i]? = some x → X.N[j]? = some x ∧ (x, NameKind.free) ∈ scope.names ∧ (X.env.kindOf x = some .cell ∨ X.env.kindOf x = some .free) ∧ ((relabel scope X.env).names.lookup x = some .cell ∨ (relabel scope X.env).names.lookup x = some .free))
    (hi : PI X tg iter wi) (hg : ∀ C s₀ H₀ ex E', PG (X.comp scope C N s₀ H₀ ex E') tg g) (ho : OwnG own g) (ht : ∀ C s₀ H₀ ex E', PIfs (X.comp scope C N s₀ H₀ ex E') ifs ti) (he : ∀ C s₀ H₀ ex E', Passes (CX1 X.prog X.w) (X.comp scope C N s₀ H₀ ex E') E → PE (X.comp scope C N s₀ H₀ ex E') elt te)
    (hsw : swapsWith (.ListComp elt [⟨tg, iter, ifs, 0⟩] scope pos) (some (.Name y py)) spos.line X.env = pure true := by rfl)
    (hs : ∀ x, foldedSetIterable iter X.env x = pure x := by intro _; rfl) : PS X (.Assign [.Name y py] (.ListComp elt [⟨tg, iter, ifs, 0⟩] scope pos) spos) (tAsg (tComp own js wi g ti te) (gName i)) := by
  intro pins s σ H D I h
  rw [exec_Assign_Name_used _ _ _ _ hsw]
  refine wpAny_bind (wpAny_standAt (wpAny_bind ?_))
  show wpAny _ X.A (do let _ ← comprehension (.ListComp elt [⟨tg, iter, ifs, 0⟩] scope pos) scope X.env _ (newList []) false (eval iter X.env) (some (assign (.Name y py) X.env))) _ _ s
  refine wpAny_bind (wpAny_mono (comp_coreR F hM hc hcell hkind hnames hfree hlen hcap hi hg ho ht he I h (use := some (assign (.Name y py) X.env)) (RQ := fun _ s' => SP X pins D .next s') (fun acc C H3 s4 m I5 hn c1 c2 c3 c4 c5 c6 q => ?_) hs) (fun _ s' hq => wpAny_pure (wpAny_pure hq)) fun _ _ e => e)
  show wpAny _ X.A (assign (.Name y py) X.env (.ref acc)) _ _ _
  obtain ⟨o, es, ep, ho', hd, hr⟩ := hn
  have I6 : Inv X (pins ++ [(C, o)]) σ H3 s4 := I5.pins_of fun p hp => by
    rcases List.mem_append.mp hp with z | z
    · exact I5.pin p (List.mem_append_right _ z)
    · rw [List.mem_singleton.mp z]
      exact ⟨ho', c1, c2, c3, fun v z => by rw [hd] at z; cases z⟩
  refine wpAny_assign_Name (store_ok I6 hN hi' hy (v := .ref acc) rfl (fun s' I7 => ?_) hf)
  have hp := I7.pin (C, o) (List.mem_append_right _ (List.mem_append_right _ (by simp)))
  refine ⟨m, ⟨o, es, ep, hp.1, hd, hr⟩, fun h' sb => ⟨_, H3, ?_, q⟩⟩
  exact I7.unpinned.turned (t' := s'.toks) (it := C) (fun b o hb e => (sb.2 b hb).trans e) c1 c2 (.inr c4) c5 c6
section
variable {X : Cx} {XN : List Str} {sc scope : Scope} {elt tg iter : Expr} {ifs : List Expr} {pos : Pos} {N : List Str} {own : Nat} {js : List Nat} {wi : TI} {g : TG} {ti : TT} {te : TE}
theorem ps_setcRB {E : XK} (F : Fnc X) (hM : PassM X E) {i : Nat} {y : Str} {py spos : Pos} (hN : X.N.Nodup) (hi' : X.N[i]? = some y) (hy : Loc X.env.scope y) (hf : X.fn y = true ∨ X.env.scope.names.lookup y = some .local) (hc : X.calm = true) (ok : compOk XN sc scope own js N = true) (hsc : X.env.scope = sc) (hXN : X.N = XN) (hi : PI X tg iter wi)
    (hg : ∀ C s₀ H₀ ex E', PG (X.comp scope C N s₀ H₀ ex E') tg g) (ho : OwnG own g)
    (ht : ∀ C s₀ H₀ ex E', PIfs (X.comp scope C N s₀ H₀ ex E') ifs ti) (he : ∀ C s₀ H₀ ex E', Passes (CX1 X.prog X.w) (X.comp scope C N s₀ H₀ ex E') E → PE (X.comp scope C N s₀ H₀ ex E') elt te)
    (hsw : swapsWith (.ListComp elt [⟨tg, iter, ifs, 0⟩] scope pos) (some (.Name y py)) spos.line X.env = pure true := by rfl)
    (hs : ∀ x, foldedSetIterable iter X.env x = pure x := by intro _; rfl) : PS X (.Assign [.Name y py] (.ListComp elt [⟨tg, iter, ifs, 0⟩] scope pos) spos) (tAsg (tComp own js wi g ti te) (gName i)) := by
  obtain ⟨h1, h2, h3, h4, h5, h6⟩ := compOk_of ok
  subst hsc hXN
  refine ps_setcR F hM hN hi' hy hf hc h1 h4 h2 h3 h5 (fun i j x a b => ?_) hi hg ho ht he hsw hs
  obtain ⟨z1, z2, z3⟩ := h6 i j x a b
  exact ⟨z1, PySem.mem_of_lookup z2, z3, lookup_relabel_free z2⟩
end
end L2
namespace Mine
open PySem L2 PyProof.Rows
def top (i : Nat) : Stmt := PySem.Challenge.pw_floorcurves_k81_no_drawing_text.main.body.getD i (.Pass ⟨0, 0, 0, 0⟩)
abbrev s_show_lift : Stmt := top 9
theorem sc_show_lift : FnScope ["lift", "i", "j", "w"] ["lift"] (defScope s_show_lift) := ⟨rfl, rfl, rfl, by decide +kernel, rfl, by decide +kernel, by decide +kernel⟩
abbrev s_read_from_nought : Stmt := top 10
theorem sc_read_from_nought : FnScope ["word", "most", "in_figures"] ["word", "most"] (defScope s_read_from_nought) := ⟨rfl, rfl, rfl, by decide +kernel, rfl, by decide +kernel, by decide +kernel⟩
abbrev s_read_lift : Stmt := top 11
theorem sc_read_lift : FnScope ["word", "floors", "upper", "i", "j", "w"] ["word"] (defScope s_read_lift) := ⟨rfl, rfl, rfl, by decide +kernel, rfl, by decide +kernel, by decide +kernel⟩
abbrev s_read_drawing : Stmt := top 12
theorem sc_read_drawing : FnScope ["text", "lifts"] ["text"] (defScope s_read_drawing) := ⟨rfl, rfl, rfl, by decide +kernel, rfl, by decide +kernel, by decide +kernel⟩
abbrev s__law_cell_at : Stmt := top 14
theorem sc__law_cell_at : FnScope ["_law_script", "_law_k"] ["_law_script", "_law_k"] (defScope s__law_cell_at) := ⟨rfl, rfl, rfl, by decide +kernel, rfl, by decide +kernel, by decide +kernel⟩
abbrev s__law_great : Stmt := top 15
theorem sc__law_great : FnScope ["_law_cell", "_law_x", "_law_found", "_law_k"] ["_law_cell"] (defScope s__law_great) := ⟨rfl, rfl, rfl, by decide +kernel, rfl, by decide +kernel, by decide +kernel⟩
abbrev s__law_digit : Stmt := top 16
theorem sc__law_digit : FnScope ["_law_rest", "_law_m", "_law_digit_here"] ["_law_rest", "_law_m"] (defScope s__law_digit) := ⟨rfl, rfl, rfl, by decide +kernel, rfl, by decide +kernel, by decide +kernel⟩
abbrev s__law_lifts : Stmt := top 17
theorem sc__law_lifts : FnScope ["_law_rest", "_law_lifts_here", "_law_k", "_law_low", "_law_high"] ["_law_rest"] (defScope s__law_lifts) := ⟨rfl, rfl, rfl, by decide +kernel, rfl, by decide +kernel, by decide +kernel⟩
abbrev s__law_text : Stmt := top 18
theorem sc__law_text : FnScope ["_law_lifts_here", "_law_words", "_law_low", "_law_high", "_law_weight", "_law_word"] ["_law_lifts_here"] (defScope s__law_text) := ⟨rfl, rfl, rfl, by decide +kernel, rfl, by decide +kernel, by decide +kernel⟩
abbrev s__law_spoiled : Stmt := top 19
theorem sc__law_spoiled : FnScope ["_law_text_here", "_law_rest", "_law_signs", "_law_way", "_law_at", "_law_sign"] ["_law_text_here", "_law_rest"] (defScope s__law_spoiled) := ⟨rfl, rfl, rfl, by decide +kernel, rfl, by decide +kernel, by decide +kernel⟩
abbrev s__law_lift : Stmt := top 20
theorem sc__law_lift : FnScope ["_law_word", "_law_floors", "_law_tail", "_law_weight"] ["_law_word"] (defScope s__law_lift) := ⟨rfl, rfl, rfl, by decide +kernel, rfl, by decide +kernel, by decide +kernel⟩
abbrev s__law_read : Stmt := top 21
theorem sc__law_read : FnScope ["_law_text_here", "_law_lifts_here", "_law_word", "_law_lift_here"] ["_law_text_here"] (defScope s__law_read) := ⟨rfl, rfl, rfl, by decide +kernel, rfl, by decide +kernel, by decide +kernel⟩
abbrev s__law_refused : Stmt := top 22
theorem sc__law_refused : FnScope ["_law_text_here", "e"] ["_law_text_here"] (defScope s__law_refused) := ⟨rfl, rfl, rfl, by decide +kernel, rfl, by decide +kernel, by decide +kernel⟩
abbrev s_law : Stmt := top 23
theorem sc_law : FnScope ["_law_script", "_law_rest", "_law_text_here", "_law_k", "_law_due"] ["_law_script"] (defScope s_law) := ⟨rfl, rfl, rfl, by decide +kernel, rfl, by decide +kernel, by decide +kernel⟩
set_option genInjectivity false
set_option genSizeOfSpec false
structure Fns (K : PySem.W.Frag) (mg : Str → Option Value) where
  f_show_lift : Addr
  d_show_lift : FuncData
  f_read_from_nought : Addr
  d_read_from_nought : FuncData
  f_read_lift : Addr
  d_read_lift : FuncData
  f_read_drawing : Addr
  d_read_drawing : FuncData
  f__law_cell_at : Addr
  d__law_cell_at : FuncData
  f__law_great : Addr
  d__law_great : FuncData
  f__law_digit : Addr
  d__law_digit : FuncData
  f__law_lifts : Addr
  d__law_lifts : FuncData
  f__law_text : Addr
  d__law_text : FuncData
  f__law_spoiled : Addr
  d__law_spoiled : FuncData
  f__law_lift : Addr
  d__law_lift : FuncData
  f__law_read : Addr
  d__law_read : FuncData
  f__law_refused : Addr
  d__law_refused : FuncData
  f_law : Addr
  d_law : FuncData
  F_show_lift : Fun K "show_lift" "show_lift" s_show_lift f_show_lift d_show_lift
  B_show_lift : Binds K d_show_lift ["lift"] []
  m_show_lift : mg "show_lift" = some (.ref f_show_lift)
  F_read_from_nought : Fun K "read_from_nought" "read_from_nought" s_read_from_nought f_read_from_nought d_read_from_nought
  B_read_from_nought : Binds K d_read_from_nought ["word", "most"] []
  m_read_from_nought : mg "read_from_nought" = some (.ref f_read_from_nought)
  F_read_lift : Fun K "read_lift" "read_lift" s_read_lift f_read_lift d_read_lift
  B_read_lift : Binds K d_read_lift ["word"] []
  m_read_lift : mg "read_lift" = some (.ref f_read_lift)
  F_read_drawing : Fun K "read_drawing" "read_drawing" s_read_drawing f_read_drawing d_read_drawing
  B_read_drawing : Binds K d_read_drawing ["text"] []
  m_read_drawing : mg "read_drawing" = some (.ref f_read_drawing)
  F__law_cell_at : Fun K "_law_cell_at" "_law_cell_at" s__law_cell_at f__law_cell_at d__law_cell_at
  B__law_cell_at : Binds K d__law_cell_at ["_law_script", "_law_k"] []
  m__law_cell_at : mg "_law_cell_at" = some (.ref f__law_cell_at)
  F__law_great : Fun K "_law_great" "_law_great" s__law_great f__law_great d__law_great
  B__law_great : Binds K d__law_great ["_law_cell"] []
  m__law_great : mg "_law_great" = some (.ref f__law_great)
  F__law_digit : Fun K "_law_digit" "_law_digit" s__law_digit f__law_digit d__law_digit
  B__law_digit : Binds K d__law_digit ["_law_rest", "_law_m"] []
  m__law_digit : mg "_law_digit" = some (.ref f__law_digit)
  F__law_lifts : Fun K "_law_lifts" "_law_lifts" s__law_lifts f__law_lifts d__law_lifts
  B__law_lifts : Binds K d__law_lifts ["_law_rest"] []
  m__law_lifts : mg "_law_lifts" = some (.ref f__law_lifts)
  F__law_text : Fun K "_law_text" "_law_text" s__law_text f__law_text d__law_text
  B__law_text : Binds K d__law_text ["_law_lifts_here"] []
  m__law_text : mg "_law_text" = some (.ref f__law_text)
  F__law_spoiled : Fun K "_law_spoiled" "_law_spoiled" s__law_spoiled f__law_spoiled d__law_spoiled
  B__law_spoiled : Binds K d__law_spoiled ["_law_text_here", "_law_rest"] []
  m__law_spoiled : mg "_law_spoiled" = some (.ref f__law_spoiled)
  F__law_lift : Fun K "_law_lift" "_law_lift" s__law_lift f__law_lift d__law_lift
  B__law_lift : Binds K d__law_lift ["_law_word"] []
  m__law_lift : mg "_law_lift" = some (.ref f__law_lift)
  F__law_read : Fun K "_law_read" "_law_read" s__law_read f__law_read d__law_read
  B__law_read : Binds K d__law_read ["_law_text_here"] []
  m__law_read : mg "_law_read" = some (.ref f__law_read)
  F__law_refused : Fun K "_law_refused" "_law_refused" s__law_refused f__law_refused d__law_refused
  B__law_refused : Binds K d__law_refused ["_law_text_here"] []
  m__law_refused : mg "_law_refused" = some (.ref f__law_refused)
  F_law : Fun K "law" "law" s_law f_law d_law
  B_law : Binds K d_law ["_law_script"] []
  m_law : mg "law" = some (.ref f_law)
  n_int : mg "int" = none
  n_all : mg "all" = none
  n_len : mg "len" = none
  n_sorted : mg "sorted" = none
  n_range : mg "range" = none
  n_str : mg "str" = none
  n_isinstance : mg "isinstance" = none
  n_ValueError : mg "ValueError" = none
  k_FIGURES : Tok
  m_FIGURES : mg "FIGURES" = some (.str (Str.ofString "0123456789") k_FIGURES)
  c_NoText : Addr
  m_NoText : mg "NoText" = some (.ref c_NoText)
  c_CurveError : Addr
  m_CurveError : mg "CurveError" = some (.ref c_CurveError)
  c_NoBound : Addr
  m_NoBound : mg "NoBound" = some (.ref c_NoBound)
  c_NoDrawing : Addr
  m_NoDrawing : mg "NoDrawing" = some (.ref c_NoDrawing)
  c_NoEnds : Addr
  m_NoEnds : mg "NoEnds" = some (.ref c_NoEnds)
  c_NoNumber : Addr
  m_NoNumber : mg "NoNumber" = some (.ref c_NoNumber)
  x_NoText : PySem.W.excIn K c_NoText bmV "ValueError.__new__" = true
  X_NoText : XC K c_NoText
  e_NoText_CurveError : PySem.W.exmOne K (.ref c_NoText) (.ref c_CurveError) = some true
  k_NoText_NoText : PySem.W.kitOne K (.ref c_NoText) (.ref c_NoText) = some true
  k_NoText_ValueError : PySem.W.kitOne K (.ref c_NoText) (.type "ValueError") = some true
  ks_NoText_0 : PySem.W.kitAny K (.ref c_NoText) [(.ref c_NoBound), (.ref c_NoDrawing), (.ref c_NoEnds), (.ref c_NoNumber)] = some false
/-! words joined by a sign that none of them holds, taken apart again -/
theorem cut_same {c : Nat} : ∀ {a b r s : List Nat}, c ∉ a → c ∉ b → a ++ c :: r = b ++ c :: s → a = b ∧ r = s
  | [], [], _, _, _, _, h => ⟨rfl, by simpa using h⟩
  | [], y :: b, _, _, _, hb, h => by
    simp only [List.nil_append, List.cons_append, List.cons.injEq] at h
    exact absurd (by rw [h.1]; simp) hb
  | x :: a, [], _, _, ha, _, h => by
    simp only [List.nil_append, List.cons_append, List.cons.injEq] at h
    exact absurd (by rw [← h.1]; simp) ha
  | x :: a, y :: b, r, s, ha, hb, h => by
    simp only [List.cons_append, List.cons.injEq] at h
    obtain ⟨e1, e2⟩ := cut_same (a := a) (b := b) (r := r) (s := s) (fun z => ha (by simp [z])) (fun z => hb (by simp [z])) h.2
    exact ⟨by rw [h.1, e1], e2⟩
theorem join_cps (c : Nat) (x y : Str) (r : List Str) : (Str.join ⟨#[c]⟩ (x :: y :: r)).cps.toList = x.cps.toList ++ c :: (Str.join ⟨#[c]⟩ (y :: r)).cps.toList := by
  show (x ++ ⟨#[c]⟩ ++ Str.join ⟨#[c]⟩ (y :: r)).cps.toList = _
  rw [Str.cps_append, Str.cps_append]
  simp
theorem str_of_list {x y : Str} (h : x.cps.toList = y.cps.toList) : x = y := Str.ext' (Array.toList_inj.mp h)
theorem join_inj {c : Nat} : ∀ {ps qs : List Str}, ps ≠ [] → qs ≠ [] → (∀ p ∈ ps, c ∉ p.cps.toList) → (∀ q ∈ qs, c ∉ q.cps.toList) → Str.join ⟨#[c]⟩ ps = Str.join ⟨#[c]⟩ qs → ps = qs
  | [], _, h, _, _, _, _ => absurd rfl h
  | _ :: _, [], _, h, _, _, _ => absurd rfl h
  | [p], [q], _, _, _, _, h => by rw [show p = q from h]
  | [p], q :: q2 :: qs, _, _, hp, hq, h => by
    have e := congrArg (fun z : Str => z.cps.toList) h
    simp only [join_cps] at e
    exact absurd (show c ∈ p.cps.toList by show c ∈ (Str.join ⟨#[c]⟩ [p]).cps.toList; rw [e]; simp) (hp p (by simp))
  | p :: p2 :: ps, [q], _, _, hp, hq, h => by
    have e := congrArg (fun z : Str => z.cps.toList) h
    simp only [join_cps] at e
    exact absurd (show c ∈ q.cps.toList by show c ∈ (Str.join ⟨#[c]⟩ [q]).cps.toList; rw [← e]; simp) (hq q (by simp))
  | p :: p2 :: ps, q :: q2 :: qs, _, _, hp, hq, h => by
    have e := congrArg (fun z : Str => z.cps.toList) h
    simp only [join_cps] at e
    obtain ⟨e1, e2⟩ := cut_same (hp p (by simp)) (hq q (by simp)) e
    rw [str_of_list e1, join_inj (by simp) (by simp) (fun z hz => hp z (by simp [hz])) (fun z hz => hq z (by simp [hz])) (str_of_list e2)]
theorem split_join {c : Nat} {ws : List Str} (h0 : ws ≠ []) (h : ∀ w ∈ ws, c ∉ w.cps.toList) : Txt.split (Str.join ⟨#[c]⟩ ws) ⟨#[c]⟩ = ws := by
  refine join_inj (fun z => ?_) h0 (StrLaws.split_free _ c) h (StrLaws.join_split _ _)
  have := split_pos (Str.join ⟨#[c]⟩ ws) ⟨#[c]⟩
  rw [z] at this
  exact absurd this (by decide)

/-! lifts written and read -/
abbrev Lf := Int × Int × Int
def row3 (p : Lf) : List Int := [p.1, p.2.1, p.2.2]
def S1 (n : Int) : Str := Str.ofString (toString n)
def OkL (p : Lf) : Prop := 1 ≤ p.1 ∧ p.1 < p.2.1 ∧ p.2.1 ≤ 9 ∧ 1 ≤ p.2.2 ∧ p.2.2 ≤ 60
def uw (p : Lf) : Str := if p.2.2 = 1 then S1 p.2.1 else S1 p.2.1 ++ Str.ofString "x" ++ S1 p.2.2
def wrd (p : Lf) : Str := if p.2.2 = 1 then S1 p.1 ++ Str.ofString "-" ++ S1 p.2.1 else S1 p.1 ++ Str.ofString "-" ++ S1 p.2.1 ++ Str.ofString "x" ++ S1 p.2.2
def textF (ps : List Lf) : Str := if ps = [] then Str.ofString "none" else Txt.join (Str.ofString " ") (ps.map wrd)
def dig (c : Nat) : Bool := decide (48 ≤ c) && decide (c < 58)
def numOk (n : Nat) : Bool := decide (1 ≤ (S1 n).length) && decide ((S1 n).length ≤ 2) && (decide (9 < n) || decide ((S1 n).length = 1)) && (S1 n).cps.toList.all dig && !(Txt.startswith (S1 n) (Str.ofString "0")) && (PySem.intText? (S1 n) == some (n : Int))
theorem nums_ok : ∀ n, n < 60 → numOk (n + 1) = true := by decide +kernel
theorem num_ok {n : Int} (h1 : 1 ≤ n) (h2 : n ≤ 60) : 1 ≤ (S1 n).length ∧ (S1 n).length ≤ 2 ∧ (n ≤ 9 → (S1 n).length = 1) ∧ (∀ c ∈ (S1 n).cps.toList, 48 ≤ c ∧ c < 58) ∧ Txt.startswith (S1 n) (Str.ofString "0") = false ∧ PySem.intText? (S1 n) = some n := by
  obtain ⟨m, rfl⟩ := Int.eq_ofNat_of_zero_le (show 0 ≤ n by omega)
  have := nums_ok (m - 1) (by omega)
  rw [show m - 1 + 1 = m by omega] at this
  unfold numOk at this
  simp only [Bool.and_eq_true, decide_eq_true_eq, Bool.or_eq_true, Bool.not_eq_true', List.all_eq_true, beq_iff_eq] at this
  obtain ⟨⟨⟨⟨⟨a, b⟩, c⟩, d⟩, e⟩, f⟩ := this
  refine ⟨a, b, fun h => ?_, fun x hx => ?_, e, f⟩
  · rcases c with c | c
    · omega
    · exact c
  · have := d x hx
    unfold dig at this
    simpa using this
theorem s_dash : Str.ofString "-" = ⟨#[45]⟩ := by decide +kernel
theorem s_x : Str.ofString "x" = ⟨#[120]⟩ := by decide +kernel
theorem s_sp : Str.ofString " " = ⟨#[32]⟩ := by decide +kernel
theorem uw_in {p : Lf} (h : OkL p) : ∀ c ∈ (uw p).cps.toList, (48 ≤ c ∧ c < 58) ∨ c = 120 := by
  obtain ⟨h1, h2, h3, h4, h5⟩ := h
  have a := (num_ok (n := p.2.1) (by omega) (by omega)).2.2.2.1
  have b := (num_ok h4 h5).2.2.2.1
  intro c hc
  unfold uw at hc
  split at hc
  · exact .inl (a c hc)
  · rw [Str.cps_append, Str.cps_append, s_x] at hc
    simp only [Array.toList_append, List.mem_append] at hc
    rcases hc with (hc | hc) | hc
    · exact .inl (a c hc)
    · exact .inr (by simpa using hc)
    · exact .inl (b c hc)
theorem wrd_uw (p : Lf) : wrd p = S1 p.1 ++ Str.ofString "-" ++ uw p := by
  unfold wrd uw
  split
  · rfl
  · simp only [Str.append_assoc]
theorem wrd_in {p : Lf} (h : OkL p) : ∀ c ∈ (wrd p).cps.toList, (48 ≤ c ∧ c < 58) ∨ c = 120 ∨ c = 45 := by
  have a := (num_ok (n := p.1) h.1 (by have := h.2; omega)).2.2.2.1
  have b := uw_in h
  intro c hc
  rw [wrd_uw, Str.cps_append, Str.cps_append, s_dash] at hc
  simp only [Array.toList_append, List.mem_append] at hc
  rcases hc with (hc | hc) | hc
  · exact .inl (a c hc)
  · exact .inr (.inr (by simpa using hc))
  · rcases b c hc with e | e
    · exact .inl e
    · exact .inr (.inl e)
theorem split_wrd {p : Lf} (h : OkL p) : Txt.split (wrd p) (Str.ofString "-") = [S1 p.1, uw p] := by
  have a := (num_ok (n := p.1) h.1 (by have := h.2; omega)).2.2.2.1
  have b := uw_in h
  have e : wrd p = Str.join ⟨#[45]⟩ [S1 p.1, uw p] := by rw [wrd_uw, s_dash]; rfl
  rw [e, s_dash]
  refine split_join (by simp) fun w hw hc => ?_
  rcases List.mem_cons.mp hw with rfl | hw
  · have := a _ hc; omega
  · rw [List.mem_singleton.mp hw] at hc
    have := b _ hc
    omega
theorem split_uw1 {p : Lf} (h : OkL p) (hw : p.2.2 = 1) : Txt.split (uw p) (Str.ofString "x") = [S1 p.2.1] := by
  obtain ⟨h1, h2, h3, h4, h5⟩ := h
  have a := (num_ok (n := p.2.1) (by omega) (by omega)).2.2.2.1
  have e : uw p = Str.join ⟨#[120]⟩ [S1 p.2.1] := by unfold uw; rw [if_pos hw]; rfl
  rw [e, s_x]
  refine split_join (by simp) fun w hw hc => ?_
  rw [List.mem_singleton.mp hw] at hc
  have := a _ hc; omega
theorem split_uw2 {p : Lf} (h : OkL p) (hw : p.2.2 ≠ 1) : Txt.split (uw p) (Str.ofString "x") = [S1 p.2.1, S1 p.2.2] := by
  obtain ⟨h1, h2, h3, h4, h5⟩ := h
  have a := (num_ok (n := p.2.1) (by omega) (by omega)).2.2.2.1
  have b := (num_ok h4 h5).2.2.2.1
  have e : uw p = Str.join ⟨#[120]⟩ [S1 p.2.1, S1 p.2.2] := by unfold uw; rw [if_neg hw, s_x]; rfl
  rw [e, s_x]
  refine split_join (by simp) fun w hw hc => ?_
  rcases List.mem_cons.mp hw with rfl | hw
  · have := a _ hc; omega
  · rw [List.mem_singleton.mp hw] at hc
    have := b _ hc; omega
theorem text_join {ps : List Lf} (h : ps ≠ []) : textF ps = Str.join ⟨#[32]⟩ (ps.map wrd) := by
  unfold textF Txt.join
  rw [if_neg h, StrLaws.glued_eq_join, s_sp]
theorem split_text {ps : List Lf} (h0 : ps ≠ []) (h : ∀ p ∈ ps, OkL p) : Txt.split (textF ps) (Str.ofString " ") = ps.map wrd := by
  rw [text_join h0, s_sp]
  refine split_join (by simpa using h0) fun w hw hc => ?_
  obtain ⟨p, hp, rfl⟩ := List.mem_map.mp hw
  have := wrd_in (h p hp) _ hc
  omega
theorem dash_none : 45 ∉ (Str.ofString "none").cps.toList := by decide +kernel
theorem none_join : Str.ofString "none" = Str.join ⟨#[32]⟩ [Str.ofString "none"] := rfl
theorem none_sp : 32 ∉ (Str.ofString "none").cps.toList := by decide +kernel
theorem text_none {ps : List Lf} (h0 : ps ≠ []) (h : ∀ p ∈ ps, OkL p) : textF ps ≠ Str.ofString "none" := by
  intro z
  rw [text_join h0, none_join] at z
  have := join_inj (by simpa using h0) (by simp) (fun w hw hc => by
    obtain ⟨p, hp, rfl⟩ := List.mem_map.mp hw
    have := wrd_in (h p hp) _ hc
    omega) (fun q hq => by rw [List.mem_singleton.mp hq]; exact none_sp) z
  cases ps with
  | nil => exact h0 rfl
  | cons p ps =>
    simp only [List.map_cons, List.cons.injEq] at this
    refine dash_none ?_
    rw [← this.1, wrd_uw, Str.cps_append, Str.cps_append, s_dash]
    simp
theorem x_len : (Str.ofString "x").length = 1 := by decide +kernel
theorem d_len : (Str.ofString "-").length = 1 := by decide +kernel
theorem sp_len : (Str.ofString " ").length = 1 := by decide +kernel
theorem uw_len {p : Lf} (h : OkL p) : 1 ≤ (uw p).length ∧ (uw p).length ≤ 5 := by
  obtain ⟨h1, h2, h3, h4, h5⟩ := h
  obtain ⟨a, a', _⟩ := num_ok (n := p.2.1) (by omega) (by omega)
  obtain ⟨b, b', _⟩ := num_ok h4 h5
  unfold uw
  split
  · omega
  · rw [Str.length_append, Str.length_append, x_len]; omega
theorem wrd_len {p : Lf} (h : OkL p) : 1 ≤ (wrd p).length ∧ (wrd p).length ≤ 8 := by
  have := uw_len h
  obtain ⟨a, a', _⟩ := num_ok (n := p.1) h.1 (by have := h.2; omega)
  rw [wrd_uw, Str.length_append, Str.length_append, d_len]
  omega
theorem words_len : ∀ {ps : List Lf}, (∀ p ∈ ps, OkL p) → ((ps.map wrd).map (·.length)).sum ≤ 8 * ps.length
  | [], _ => by decide
  | p :: ps, h => by
    have h1 := (wrd_len (h p (by simp))).2
    have h2 := words_len (ps := ps) fun m hm => h m (by simp [hm])
    rw [List.map_cons, List.map_cons, List.sum_cons, List.length_cons]
    show (wrd p).length + _ ≤ _
    omega
theorem join_len (sep : Str) : ∀ (ws : List Str), (Str.join sep ws).length ≤ (ws.map (·.length)).sum + ws.length * sep.length
  | [] => by simp [Str.join]; decide
  | [w] => by simp [Str.join]
  | w :: y :: r => by
    have := join_len sep (y :: r)
    show (w ++ sep ++ Str.join sep (y :: r)).length ≤ _
    rw [Str.length_append, Str.length_append, List.map_cons, List.sum_cons, List.length_cons, Nat.succ_mul]
    omega
theorem none_len : (Str.ofString "none").length = 4 := by decide +kernel
theorem text_len {ps : List Lf} (h : ∀ p ∈ ps, OkL p) : (textF ps).length ≤ 9 * ps.length + 4 := by
  by_cases h0 : ps = []
  · unfold textF
    rw [if_pos h0, none_len]
    omega
  · rw [text_join h0]
    have a := join_len ⟨#[32]⟩ (ps.map wrd)
    have b := words_len h
    rw [List.length_map] at a
    have : (⟨#[32]⟩ : Str).length = 1 := rfl
    rw [this] at a
    omega
theorem size9 : 9000 ≤ sizeLine := by decide
theorem em_len : Str.empty.length = 0 := by decide
theorem log60 {n : Int} (h1 : 1 ≤ n) (h2 : n ≤ 60) : n.natAbs.log2 < 1920 := by
  refine Nat.lt_of_lt_of_le ((Nat.log2_lt (by omega) (k := 6)).mpr ?_) (by decide)
  omega
/-! sorted lists -/
def Asc (ps : List Lf) : Prop := ∀ i j, i < j → j < (ps.map row3).length → ltI ((ps.map row3).getD j []) ((ps.map row3).getD i []) = false
theorem row3_inj {p q : Lf} (h : row3 p = row3 q) : p = q := by
  obtain ⟨a, b, c⟩ := p
  obtain ⟨d, e, f⟩ := q
  simp only [row3, List.cons.injEq] at h
  rw [h.1, h.2.1, h.2.2.1]
theorem asc_pw {yss : List (List Int)} (h : ∀ i j, i < j → j < yss.length → ltI (yss.getD j []) (yss.getD i []) = false) : yss.Pairwise fun x y => ltI y x = false := by
  rw [List.pairwise_iff_getElem]
  intro i j hi hj hij
  have := h i j hij hj
  rw [List.getD_eq_getElem?_getD, List.getD_eq_getElem?_getD, List.getElem?_eq_getElem hi, List.getElem?_eq_getElem hj] at this
  exact this
theorem asc_eq {yss xss : List (List Int)} (hp : yss.Perm xss) (hl : ∀ x ∈ xss, x.length = 3) (h1 : ∀ i j, i < j → j < yss.length → ltI (yss.getD j []) (yss.getD i []) = false) (h2 : ∀ i j, i < j → j < xss.length → ltI (xss.getD j []) (xss.getD i []) = false) : yss = xss := by
  refine hp.eq_of_pairwise (fun a b ha hb e1 e2 => ?_) (asc_pw h1) (asc_pw h2)
  have la := hl a (hp.mem_iff.mp ha)
  have lb := hl b hb
  rw [ltI_same (by rw [la, lb])] at e1 e2
  exact lexI_anti (by rw [la, lb]) e2 e1
theorem rows_len {ps : List Lf} : ∀ x ∈ ps.map row3, x.length = 3 := fun x hx => by
  obtain ⟨p, _, rfl⟩ := List.mem_map.mp hx
  rfl

/-! words that are lifts, read sign by sign -/
def sgF (n : Nat) : List Nat := if n < 10 then [48 + n] else [48 + n / 10, 48 + n % 10]
theorem sgs : ∀ n, n < 60 → (S1 ((n + 1 : Nat) : Int)).cps.toList = sgF (n + 1) := by decide +kernel
theorem sg {n : Nat} (h1 : 1 ≤ n) (h2 : n ≤ 60) : (S1 (n : Int)).cps.toList = sgF n := by
  have := sgs (n - 1) (by omega)
  rwa [show n - 1 + 1 = n by omega] at this
def cF (i j w : Nat) : List Nat := if w = 1 then [48 + i, 45, 48 + j] else [48 + i, 45, 48 + j, 120] ++ sgF w
theorem wrd_cF {i j w : Nat} (h : OkL ((i : Int), (j : Int), (w : Int))) : (wrd ((i : Int), (j : Int), (w : Int))).cps.toList = cF i j w := by
  obtain ⟨h1, h2, h3, h4, h5⟩ := h
  dsimp only at h1 h2 h3 h4 h5
  have a := sg (n := i) (by omega) (by omega)
  have b := sg (n := j) (by omega) (by omega)
  have c := sg (n := w) (by omega) (by omega)
  have ea : sgF i = [48 + i] := if_pos (by omega)
  have eb : sgF j = [48 + j] := if_pos (by omega)
  rw [ea] at a
  rw [eb] at b
  unfold wrd cF
  dsimp only
  by_cases e : w = 1
  · rw [if_pos (by omega), if_pos e, s_dash]
    simp only [Str.cps_append, Array.toList_append, a, b]
    rfl
  · rw [if_neg (by omega), if_neg e, s_dash, s_x]
    simp only [Str.cps_append, Array.toList_append, a, b, c]
    rfl
/-- a sign from 1 to 9 -/
def flo (c : Nat) : Bool := decide (49 ≤ c) && decide (c ≤ 57)
/-- the law's reading of a word -/
def lawL : List Nat → Option Lf
  | [a, m, b] => if flo a = true ∧ m = 45 ∧ flo b = true ∧ a < b then some (((a - 48 : Nat) : Int), ((b - 48 : Nat) : Int), 1) else none
  | [a, m, b, x, c] => if flo a = true ∧ m = 45 ∧ flo b = true ∧ a < b ∧ x = 120 ∧ flo c = true ∧ 2 ≤ c - 48 then some (((a - 48 : Nat) : Int), ((b - 48 : Nat) : Int), ((c - 48 : Nat) : Int)) else none
  | [a, m, b, x, c, e] => if flo a = true ∧ m = 45 ∧ flo b = true ∧ a < b ∧ x = 120 ∧ flo c = true ∧ 48 ≤ e ∧ e ≤ 57 ∧ 10 * (c - 48) + (e - 48) ≤ 60 then some (((a - 48 : Nat) : Int), ((b - 48 : Nat) : Int), ((10 * (c - 48) + (e - 48) : Nat) : Int)) else none
  | _ => none
theorem lawL_of {i j w : Nat} (h : OkL ((i : Int), (j : Int), (w : Int))) : lawL (cF i j w) = some ((i : Int), (j : Int), (w : Int)) := by
  obtain ⟨h1, h2, h3, h4, h5⟩ := h
  dsimp only at h1 h2 h3 h4 h5
  unfold cF
  have fi : flo (48 + i) = true := by unfold flo; simp; omega
  have fj : flo (48 + j) = true := by unfold flo; simp; omega
  by_cases e : w = 1
  · rw [if_pos e]
    dsimp only [lawL]
    rw [if_pos ⟨fi, rfl, fj, by omega⟩, e]
    simp
  · rw [if_neg e]
    unfold sgF
    by_cases e2 : w < 10
    · rw [if_pos e2]
      have fw : flo (48 + w) = true := by unfold flo; simp; omega
      show lawL [48 + i, 45, 48 + j, 120, 48 + w] = _
      dsimp only [lawL]
      rw [if_pos ⟨fi, rfl, fj, by omega, rfl, fw, by omega⟩]
      simp
    · rw [if_neg e2]
      have fw : flo (48 + w / 10) = true := by unfold flo; simp; omega
      show lawL [48 + i, 45, 48 + j, 120, 48 + w / 10, 48 + w % 10] = _
      dsimp only [lawL]
      have ew : 10 * (48 + w / 10 - 48) + (48 + w % 10 - 48) = w := by omega
      rw [ew, if_pos ⟨fi, rfl, fj, by omega, rfl, fw, by omega, by omega, by omega⟩]
      simp
theorem lawL_some {L : List Nat} {p : Lf} (h : lawL L = some p) : ∃ i j w : Nat, p = ((i : Int), (j : Int), (w : Int)) ∧ OkL p ∧ L = cF i j w := by
  unfold lawL at h
  split at h
  · split at h
    · rename_i a m b q
      obtain ⟨q1, q2, q3, q4⟩ := q
      unfold flo at q1 q3
      simp only [Bool.and_eq_true, decide_eq_true_eq] at q1 q3
      cases h
      refine ⟨a - 48, b - 48, 1, rfl, ⟨by dsimp only; omega, by dsimp only; omega, by dsimp only; omega, by dsimp only; omega, by dsimp only; omega⟩, ?_⟩
      unfold cF
      rw [if_pos rfl, q2, show 48 + (a - 48) = a by omega, show 48 + (b - 48) = b by omega]
    · cases h
  · split at h
    · rename_i a m b x c q
      obtain ⟨q1, q2, q3, q4, q5, q6, q7⟩ := q
      unfold flo at q1 q3 q6
      simp only [Bool.and_eq_true, decide_eq_true_eq] at q1 q3 q6
      cases h
      refine ⟨a - 48, b - 48, c - 48, rfl, ⟨by dsimp only; omega, by dsimp only; omega, by dsimp only; omega, by dsimp only; omega, by dsimp only; omega⟩, ?_⟩
      unfold cF sgF
      rw [if_neg (by omega), if_pos (by omega), q2, q5, show 48 + (a - 48) = a by omega, show 48 + (b - 48) = b by omega, show 48 + (c - 48) = c by omega]
      rfl
    · cases h
  · split at h
    · rename_i a m b x c e q
      obtain ⟨q1, q2, q3, q4, q5, q6, q7, q8, q9⟩ := q
      unfold flo at q1 q3 q6
      simp only [Bool.and_eq_true, decide_eq_true_eq] at q1 q3 q6
      cases h
      refine ⟨a - 48, b - 48, 10 * (c - 48) + (e - 48), rfl, ⟨by dsimp only; omega, by dsimp only; omega, by dsimp only; omega, by dsimp only; omega, by dsimp only; omega⟩, ?_⟩
      unfold cF sgF
      rw [if_neg (by omega), if_neg (by omega), q2, q5, show 48 + (a - 48) = a by omega, show 48 + (b - 48) = b by omega, show 48 + (10 * (c - 48) + (e - 48)) / 10 = c by omega, show 48 + (10 * (c - 48) + (e - 48)) % 10 = e by omega]
      rfl
    · cases h
  · cases h
/-- a word is a lift's word just where the law's reading tells that lift -/
theorem lawL_iff {w : Str} {p : Lf} : lawL w.cps.toList = some p ↔ OkL p ∧ w = wrd p := by
  constructor
  · intro h
    obtain ⟨i, j, k, rfl, ok, e⟩ := lawL_some h
    exact ⟨ok, str_of_list (e.trans (wrd_cF ok).symm)⟩
  · rintro ⟨ok, rfl⟩
    obtain ⟨a, b, c⟩ := p
    obtain ⟨i, rfl⟩ := Int.eq_ofNat_of_zero_le (show 0 ≤ a by have := ok.1; dsimp only at this; omega)
    obtain ⟨j, rfl⟩ := Int.eq_ofNat_of_zero_le (show 0 ≤ b by have h1 := ok.1; have h2 := ok.2.1; dsimp only at h1 h2; omega)
    obtain ⟨k, rfl⟩ := Int.eq_ofNat_of_zero_le (show 0 ≤ c by have := ok.2.2.2.1; dsimp only at this; omega)
    rw [wrd_cF ok]
    exact lawL_of ok
/-! one or two figures as a number -/
theorem int1 : ∀ a, a < 10 → PySem.intText? ⟨#[48 + a]⟩ = some (a : Int) := by decide +kernel
theorem int2 : ∀ a, a < 10 → ∀ b, b < 10 → PySem.intText? ⟨#[48 + a, 48 + b]⟩ = some ((10 * a + b : Nat) : Int) := by decide +kernel
theorem int_fig {z : Str} (h0 : 1 ≤ z.length) (h2 : z.length ≤ 2) (hd : ∀ c ∈ z.cps.toList, 48 ≤ c ∧ c < 58) : ∃ n : Nat, n < 100 ∧ PySem.intText? z = some (n : Int) := by
  obtain ⟨⟨L⟩⟩ := z
  match L, h0, h2, hd with
  | [], h0, _, _ => exact absurd h0 (by show ¬ 1 ≤ 0; decide)
  | [a], _, _, hd =>
    have h := hd a (by simp)
    refine ⟨a - 48, by omega, ?_⟩
    have := int1 (a - 48) (by omega)
    rwa [show 48 + (a - 48) = a by omega] at this
  | [a, b], _, _, hd =>
    have h := hd a (by simp)
    have k := hd b (by simp)
    refine ⟨10 * (a - 48) + (b - 48), by omega, ?_⟩
    have := int2 (a - 48) (by omega) (b - 48) (by omega)
    rwa [show 48 + (a - 48) = a by omega, show 48 + (b - 48) = b by omega] at this
  | a :: b :: c :: r, _, h2, _ => exact absurd h2 (by show ¬ (r.length + 1 + 1 + 1 ≤ 2); omega)

/-! texts of few plain signs, taken apart -/
def Fit (n : Nat) (t : Str) : Prop := t.length ≤ n ∧ ∀ c ∈ t.cps.toList, c < 128
theorem Fit.asc {n : Nat} {t : Str} (h : Fit n t) : t.cps.all (· < 128) = true := by
  rw [Array.all_eq_true']
  intro c hc
  have := h.2 c (Array.mem_toList_iff.mpr hc)
  simpa using this
theorem Fit.le {n m : Nat} {t : Str} (h : Fit n t) (k : n ≤ m) : Fit m t := ⟨Nat.le_trans h.1 k, h.2⟩
theorem Fit.add {n m : Nat} {t u : Str} (h : Fit n t) (k : Fit m u) : Fit (n + m) (t ++ u) := by
  refine ⟨by rw [Str.length_append]; have := h.1; have := k.1; omega, fun c hc => ?_⟩
  rw [Str.cps_append] at hc
  simp only [Array.toList_append, List.mem_append] at hc
  rcases hc with hc | hc
  · exact h.2 c hc
  · exact k.2 c hc
theorem join_mem {c : Nat} : ∀ {ws : List Str} {w : Str}, w ∈ ws → ∀ x ∈ w.cps.toList, x ∈ (Str.join ⟨#[c]⟩ ws).cps.toList
  | [], _, h, _, _ => absurd h (by simp)
  | [v], w, h, x, hx => by rw [List.mem_singleton.mp h] at hx; exact hx
  | v :: u :: r, w, h, x, hx => by
    rw [join_cps]
    rcases List.mem_cons.mp h with rfl | h
    · exact List.mem_append_left _ hx
    · exact List.mem_append_right _ (List.mem_cons_of_mem _ (join_mem h x hx))
theorem join_len1 {c : Nat} : ∀ {ws : List Str}, ws ≠ [] → (Str.join ⟨#[c]⟩ ws).length + 1 = (ws.map (·.length)).sum + ws.length
  | [], h => absurd rfl h
  | [v], _ => by simp [Str.join]
  | v :: u :: r, _ => by
    have := join_len1 (c := c) (ws := u :: r) (by simp)
    show (v ++ ⟨#[c]⟩ ++ Str.join ⟨#[c]⟩ (u :: r)).length + 1 = _
    rw [Str.length_append, Str.length_append, List.map_cons, List.sum_cons, List.length_cons (a := v)]
    have e : (⟨#[c]⟩ : Str).length = 1 := rfl
    rw [e]
    omega
theorem len_sum : ∀ {ws : List Str} {w : Str}, w ∈ ws → w.length ≤ (ws.map (·.length)).sum
  | [], _, h => absurd h (by simp)
  | v :: r, w, h => by
    rw [List.map_cons, List.sum_cons]
    rcases List.mem_cons.mp h with rfl | h
    · exact Nat.le_add_right _ _
    · exact Nat.le_trans (len_sum h) (Nat.le_add_left _ _)
theorem split_ne (t : Str) (c : Nat) : Txt.split t ⟨#[c]⟩ ≠ [] := fun z => by
  have := split_pos t ⟨#[c]⟩
  rw [z] at this
  exact absurd this (by decide)
theorem split_len (t : Str) (c : Nat) : t.length + 1 = ((Txt.split t ⟨#[c]⟩).map (·.length)).sum + (Txt.split t ⟨#[c]⟩).length := by
  have := join_len1 (c := c) (split_ne t c)
  rwa [StrLaws.join_split] at this
theorem fit_split {n c : Nat} {t w : Str} (h : Fit n t) (hw : w ∈ Txt.split t ⟨#[c]⟩) : Fit n w := by
  have a := split_len t c
  have b := len_sum hw
  have d : 0 < (Txt.split t ⟨#[c]⟩).length := List.length_pos_iff.mpr (split_ne t c)
  refine ⟨by have := h.1; omega, fun x hx => h.2 x ?_⟩
  have := join_mem (c := c) hw x hx
  rwa [StrLaws.join_split] at this
theorem split_le {n c : Nat} {t : Str} (h : Fit n t) : (Txt.split t ⟨#[c]⟩).length ≤ n + 1 := by
  have a := split_len t c
  have := h.1
  omega
/-- the text of a drawing -/
def IsT (t : Str) (ps : List Lf) : Prop := t = textF ps ∧ Asc ps ∧ ∀ p ∈ ps, OkL p
theorem words_text {t : Str} {qs : List Lf} (h : Txt.split t (Str.ofString " ") = qs.map wrd) : qs ≠ [] ∧ t = textF qs := by
  rw [s_sp] at h
  have h0 : qs ≠ [] := fun z => split_ne t 32 (by rw [h, z]; rfl)
  refine ⟨h0, ?_⟩
  rw [text_join h0, ← h, StrLaws.join_split]
/-- a word of figures that is read as n -/
def NtOk (z : Str) (m : Nat) (n : Int) : Prop := z ≠ Str.ofString "" ∧ (∀ c ∈ z.cps.toList, 48 ≤ c ∧ c < 58) ∧ z.length ≤ m ∧ ¬ (Txt.startswith z (Str.ofString "0") = true ∧ z ≠ Str.ofString "0") ∧ PySem.intText? z = some n
theorem em0 : (Str.ofString "").length = 0 := by decide +kernel
theorem ne_em {z : Str} (h : z ≠ Str.ofString "") : 1 ≤ z.length := by
  refine Nat.pos_of_ne_zero fun e => h (str_of_list ?_)
  have a : z.cps.toList = [] := List.length_eq_zero_iff.mp (by rw [Array.length_toList]; exact e)
  have b : (Str.ofString "").cps.toList = [] := List.length_eq_zero_iff.mp (by rw [Array.length_toList]; exact em0)
  rw [a, b]
theorem nt_num {n : Int} {m : Nat} (h1 : 1 ≤ n) (h2 : n ≤ 60) (hm : 1 ≤ m) (h : n ≤ 9 ∨ 2 ≤ m) : NtOk (S1 n) m n := by
  obtain ⟨a1, a2, a3, a4, a5, a6⟩ := num_ok h1 h2
  refine ⟨fun z => by rw [z, em0] at a1; exact absurd a1 (by decide), a4, ?_, fun z => by rw [a5] at z; exact absurd z.1 (by decide), a6⟩
  rcases h with h | h
  · rw [a3 h]; exact hm
  · omega
theorem nt_one {z : Str} {n : Int} (h : NtOk z 1 n) : 0 ≤ n ∧ n ≤ 9 := by
  obtain ⟨h1, h2, h3, _, h5⟩ := h
  have h1 := ne_em h1
  obtain ⟨⟨L⟩⟩ := z
  match L, h1, h3, h2, h5 with
  | [], h0, _, _, _ => exact absurd h0 (by show ¬ 1 ≤ 0; decide)
  | [a], _, _, hd, h5 =>
    have h := hd a (by simp)
    have := int1 (a - 48) (by omega)
    rw [show 48 + (a - 48) = a by omega] at this
    have e := this.symm.trans h5
    have := Option.some.inj e
    omega
  | a :: b :: r, _, h2, _, _ => exact absurd h2 (by show ¬ (r.length + 1 + 1 ≤ 1); omega)
theorem fig_is : ∀ c, c < 128 → (Builtin.Str.occurrences (Str.ofString "0123456789") ⟨#[c]⟩ 0 (Str.ofString "0123456789").length 1).isEmpty = !(dig c) := by decide +kernel
theorem flo_is : ∀ c, c < 128 → (Builtin.Str.occurrences (Str.ofString "123456789") ⟨#[c]⟩ 0 (Str.ofString "123456789").length 1).isEmpty = !(flo c) := by decide +kernel
/-! a list that grows in order -/
theorem pw_asc {qs : List Lf} (h : (qs.map row3).Pairwise fun x y => ltI y x = false) : Asc qs := by
  rw [List.pairwise_iff_getElem] at h
  intro i j hij hj
  rw [List.getD_eq_getElem?_getD, List.getD_eq_getElem?_getD, List.getElem?_eq_getElem hj, List.getElem?_eq_getElem (by omega)]
  exact h i j (by omega) hj hij
theorem pw_add {rs : List Lf} {q p : Lf} (h : Asc (rs ++ [q])) (hl : ltI (row3 p) (row3 q) = false) : Asc (rs ++ [q] ++ [p]) := by
  have hp := asc_pw h
  refine pw_asc ?_
  rw [List.map_append, List.pairwise_append]
  refine ⟨hp, by simp, fun a ha b hb => ?_⟩
  rw [show b = row3 p by simpa using hb]
  rw [List.map_append, List.pairwise_append] at hp
  rw [List.map_append] at ha
  rcases List.mem_append.mp ha with ha | ha
  · have l1 := hp.2.2 a ha (row3 q) (by simp)
    obtain ⟨r, _, rfl⟩ := List.mem_map.mp ha
    rw [ltI_same (by rfl)] at hl l1 ⊢
    exact lexI_le (ys := row3 q) rfl rfl l1 hl
  · rw [show a = row3 q by simpa using ha]
    exact hl
theorem asc_one {p : Lf} : Asc [p] := pw_asc (by simp)
theorem pw_last {rs : List Lf} {q p : Lf} (h : Asc (rs ++ [q] ++ [p])) : Asc (rs ++ [q]) ∧ ltI (row3 p) (row3 q) = false := by
  have hp := asc_pw h
  rw [List.map_append, List.pairwise_append] at hp
  exact ⟨pw_asc hp.1, hp.2.2 (row3 q) (by simp) (row3 p) (by simp)⟩
theorem asc_take {qs : List Lf} {i : Nat} (h : Asc qs) : Asc (qs.take i) := by
  refine pw_asc ?_
  rw [List.map_take]
  exact (asc_pw h).sublist (List.take_sublist _ _)
/-! pieces of a text -/
theorem sl_mem {x : Str} {l u : Option Int} : ∀ c ∈ (Txt.slice x l u).cps.toList, c ∈ x.cps.toList := by
  intro c hc
  unfold Txt.slice at hc
  split at hc
  · exact hc
  · have hc : c ∈ List.filterMap (x.cps[·]?) (Builtin.Str.strSliceIndices l u 1 x.length) := by simpa using hc
    obtain ⟨i, _, hi⟩ := List.mem_filterMap.mp hc
    exact Array.mem_toList_iff.mpr (Array.mem_of_getElem? hi)
theorem sl_to {x : Str} {j : Int} (h0 : 0 ≤ j) (h : j ≤ x.length) : (Txt.slice x none (some j)).length ≤ j.toNat := by
  have e := beq_iff_eq.mp (slice_closes_to (x := x) (j := j) ⟨h0, by rw [Array.length_toList]; exact h⟩)
  rw [e]
  show (List.toArray _).size ≤ _
  rw [List.size_toArray, List.length_take]
  exact Nat.le_trans (Nat.min_le_left _ _) (by omega)
theorem sl_from {x : Str} {i : Int} (h0 : 0 ≤ i) : (Txt.slice x (some i) none).length ≤ x.length - i.toNat := by
  by_cases h : i ≤ x.length
  · rw [slice_from_eq h0 h rfl]
    show (List.toArray _).size ≤ _
    rw [List.size_toArray, List.length_take]
    exact Nat.le_trans (Nat.min_le_left _ _) (by omega)
  · rw [slice_beyond (by omega)]
    exact Nat.zero_le _
theorem sl_four {a m b x : Nat} {r : List Nat} : Txt.slice ⟨⟨a :: m :: b :: x :: r⟩⟩ (some 4) none = ⟨⟨r⟩⟩ := by
  rw [slice_from_eq (b := ((r.length + 4 : Nat) : Int)) (by decide) (by show (4 : Int) ≤ ((r.length + 4 : Nat) : Int); omega) rfl]
  show (⟨(List.take (((r.length + 4 : Nat) : Int) - 4).toNat r).toArray⟩ : Str) = _
  rw [List.take_of_length_le (by omega)]
theorem fit_to {n : Nat} {t : Str} {j : Int} (h : Fit n t) (h0 : 0 ≤ j) (hj : j ≤ t.length) : Fit j.toNat (Txt.slice t none (some j)) := ⟨sl_to h0 hj, fun c hc => h.2 c (sl_mem c hc)⟩
theorem fit_from {n : Nat} {t : Str} {j : Int} (h : Fit n t) (h0 : 0 ≤ j) : Fit (t.length - j.toNat) (Txt.slice t (some j) none) := ⟨sl_from h0, fun c hc => h.2 c (sl_mem c hc)⟩
theorem lawL_bad {a m b : Nat} {r : List Nat} (h : ¬ (flo a = true ∧ m = 45 ∧ flo b = true ∧ a < b)) : lawL (a :: m :: b :: r) = none := by
  match r with
  | [] => exact if_neg h
  | [x] => rfl
  | [x, c] => exact if_neg fun ⟨h1, h2, h3, h4, _⟩ => h ⟨h1, h2, h3, h4⟩
  | [x, c, e] => exact if_neg fun ⟨h1, h2, h3, h4, _⟩ => h ⟨h1, h2, h3, h4⟩
  | x :: c :: e :: y :: r => rfl
theorem lawL_bad2 {a m b x : Nat} {r : List Nat} (h : x ≠ 120) : lawL (a :: m :: b :: x :: r) = none := by
  match r with
  | [] => rfl
  | [c] => exact if_neg fun ⟨_, _, _, _, h5, _⟩ => h h5
  | [c, e] => exact if_neg fun ⟨_, _, _, _, h5, _⟩ => h h5
  | c :: e :: y :: r => rfl
theorem lt_one {a b : Nat} : ([a] : List Nat) < [b] ↔ a < b := by simp [List.cons_lt_cons_iff]
theorem flo_num {a : Nat} (h : flo a = true) : 49 ≤ a ∧ a ≤ 57 := by
  unfold flo at h
  simpa using h
theorem fit_text {ps : List Lf} (hl : ps.length ≤ 6) (h : ∀ p ∈ ps, OkL p) : Fit 58 (textF ps) := by
  refine ⟨by have := text_len h; omega, fun c hc => ?_⟩
  by_cases h0 : ps = []
  · subst h0
    have : (Str.ofString "none").cps.toList.all (· < 128) = true := by decide +kernel
    rw [List.all_eq_true] at this
    simpa using this c hc
  · rw [text_join h0] at hc
    have key : ∀ ws : List Str, (∀ w ∈ ws, ∀ c ∈ w.cps.toList, c < 128) → ∀ c ∈ (Str.join ⟨#[32]⟩ ws).cps.toList, c < 128 := by
      intro ws
      induction ws with
      | nil => intro _ c hc; exact absurd hc (by simp [Str.join, Str.empty])
      | cons w ws ih =>
        intro hw c hc
        cases ws with
        | nil => exact hw w (by simp) c hc
        | cons v r =>
          rw [join_cps] at hc
          rcases List.mem_append.mp hc with hc | hc
          · exact hw w (by simp) c hc
          · rcases List.mem_cons.mp hc with rfl | hc
            · decide
            · exact ih (fun w hw' => hw w (by simp [hw'])) c hc
    refine key _ (fun w hw c hc => ?_) c hc
    obtain ⟨p, hp, rfl⟩ := List.mem_map.mp hw
    have := wrd_in (h p hp) c hc
    omega
/-! the signs and words that spoil a text -/
theorem sg_len : (Str.ofString "0123456789-x \t\nnoeX+.:,_").length = 24 ∧ (Str.ofString "0123456789-x \t\nnoeX+.:,_").length ≤ sizeLine := by decide +kernel
theorem sg_pos : (0 : Int) < ((Str.ofString "0123456789-x \t\nnoeX+.:,_").length : Int) ∧ ((Str.ofString "0123456789-x \t\nnoeX+.:,_").length : Int) ≤ 10 ^ 60 := by rw [sg_len.1]; decide
theorem sg_all : ∀ c, c < 24 → ((Str.ofString "0123456789-x \t\nnoeX+.:,_").cps.toList[c]?.any (· < 128)) = true := by decide +kernel
theorem sg_at {c : Int} (h0 : 0 ≤ c) (h : c < ((Str.ofString "0123456789-x \t\nnoeX+.:,_").length : Int)) : ∃ ch, atI (Str.ofString "0123456789-x \t\nnoeX+.:,_").cps.toList c = some ch ∧ ch < 128 := by
  obtain ⟨n, rfl⟩ := Int.eq_ofNat_of_zero_le h0
  rw [sg_len.1] at h
  have := sg_all n (by omega)
  rw [Option.any_eq_true] at this
  obtain ⟨ch, e, l⟩ := this
  exact ⟨ch, ix_D rfl e, by simpa using l⟩
def fit5 (t : Str) : Bool := decide (t.length ≤ 5) && t.cps.toList.all (· < 128)
theorem fit_of {t : Str} (h : fit5 t = true) : Fit 5 t := by
  unfold fit5 at h
  rw [Bool.and_eq_true, List.all_eq_true] at h
  exact ⟨of_decide_eq_true h.1, fun c hc => by simpa using h.2 c hc⟩
theorem end_at {e : Int} (h0 : 0 ≤ e) (h : e < 6) : ∃ u, atI [V.str (Str.ofString " none"), .str (Str.ofString " "), .str (Str.ofString ""), .str (Str.ofString "x1"), .str (Str.ofString "x60"), .str (Str.ofString "x61")] e = some (.str u) ∧ Fit 5 u := by
  have : e = 0 ∨ e = 1 ∨ e = 2 ∨ e = 3 ∨ e = 4 ∨ e = 5 := by omega
  rcases this with e | e | e | e | e | e <;> subst e
  · exact ⟨_, rfl, fit_of (by decide +kernel)⟩
  · exact ⟨_, rfl, fit_of (by decide +kernel)⟩
  · exact ⟨_, rfl, fit_of (by decide +kernel)⟩
  · exact ⟨_, rfl, fit_of (by decide +kernel)⟩
  · exact ⟨_, rfl, fit_of (by decide +kernel)⟩
  · exact ⟨_, rfl, fit_of (by decide +kernel)⟩
theorem beg_at {e : Int} (h0 : 0 ≤ e) (h : e < 4) : ∃ u, atI [V.str (Str.ofString ""), .str (Str.ofString " "), .str (Str.ofString "none "), .str (Str.ofString "1-2")] e = some (.str u) ∧ Fit 5 u := by
  have : e = 0 ∨ e = 1 ∨ e = 2 ∨ e = 3 := by omega
  rcases this with e | e | e | e <;> subst e
  · exact ⟨_, rfl, fit_of (by decide +kernel)⟩
  · exact ⟨_, rfl, fit_of (by decide +kernel)⟩
  · exact ⟨_, rfl, fit_of (by decide +kernel)⟩
  · exact ⟨_, rfl, fit_of (by decide +kernel)⟩

/-! the promises -/
def spCell (K : PySem.W.Frag) : Sp := fun vs H Q _ => ∃ (a : Addr) (ns : List Int) (k : Int), vs = [.ref a, .int k] ∧ SqL K H a (ns.map V.int) ∧ 0 ≤ k ∧ ∀ z, Q (.int z) H
def sp_law (K : PySem.W.Frag) : Sp := fun vs H Q _ => ∃ (a : Addr) (ns : List Int), vs = [.ref a] ∧ SqL K H a (ns.map V.int) ∧ ns.length ≤ 63 ∧ ∀ H', Q (.bl true) H'
theorem bits60 {z : Int} (h0 : 0 < z) (h1 : z ≤ 10 ^ 60) : z ≠ 0 ∧ z.natAbs < 2 ^ 512 := by
  have : (10 : Nat) ^ 60 < 2 ^ 512 := by decide
  constructor <;> omega
def But (b : Addr) (H H' : Hp) : Prop := ∀ c o, H c = some o → c ≠ b → H' c = some o
theorem But.of_same {b : Addr} {H H' : Hp} (s : Same H H') : But b H H' := fun c o e _ => s _ _ e
theorem But.trans {b : Addr} {H H' H'' : Hp} (s : But b H H') (t : But b H' H'') : But b H H'' := fun c o e n => t c o (s c o e n) n
theorem But.upd {b : Addr} {H : Hp} {o : HO} : But b H (L2.upd H b o) := fun c u e n => by rw [upd_ne n]; exact e
def spGreat (_ : PySem.W.Frag) : Sp := fun vs H Q _ => ∃ x : Int, vs = [.int x] ∧ ∀ z, 0 ≤ z → Q (.int z) H
def spDig (_ : PySem.W.Frag) : Sp := fun vs H Q _ => ∃ (b : Addr) (m z : Int), vs = [.ref b, .int m] ∧ H b = some (.lst [.int z]) ∧ 0 ≤ z ∧ 0 < m ∧ m ≤ 10 ^ 60 ∧ ∀ y z', 0 ≤ y → y < m → 0 ≤ z' → Q (.int y) (upd H b (.lst [.int z']))
def back (xs : List Int) : Lf := (xs.getD 0 0, xs.getD 1 0, xs.getD 2 0)
theorem back_row (p : Lf) : back (row3 p) = p := rfl
theorem rows_back {ps : List Lf} {yss : List (List Int)} (h : yss.Perm (ps.map row3)) : ∃ qs : List Lf, qs.Perm ps ∧ yss = qs.map row3 := by
  refine ⟨yss.map back, ?_, ?_⟩
  · have := h.map back
    rw [List.map_map, show back ∘ row3 = id from funext fun p => back_row p, List.map_id] at this
    exact this
  · rw [List.map_map]
    have : ∀ ys ∈ yss, row3 (back ys) = ys := fun ys hy => by
      obtain ⟨p, _, rfl⟩ := List.mem_map.mp (h.mem_iff.mp hy)
      rfl
    exact (List.map_id _).symm.trans (List.map_congr_left fun ys hy => (this ys hy).symm)
/-! lifts as data -/
def lf (p : Lf) : D := tI (row3 p)
def lfs (ps : List Lf) : D := .l (ps.map lf)
theorem of_lf {H : Hp} {p : Lf} {v : V} (h : Is H (lf p) v) : ∃ a, v = .ref a ∧ H a = some (.tup [.int p.1, .int p.2.1, .int p.2.2]) := of_tI h
theorem is_lf {H : Hp} {p : Lf} {a : Addr} (h : H a = some (.tup [.int p.1, .int p.2.1, .int p.2.2])) : Is H (lf p) (.ref a) := is_tI (xs := row3 p) h
theorem lfs_rows (ps : List Lf) : lfs ps = .l ((ps.map row3).map tI) := by unfold lfs; rw [List.map_map]; rfl
theorem eqD_lfs (ps : List Lf) {K : PySem.W.Frag} {H : Hp} {v u : V} (h : Is H (lfs ps) v) (k : Is H (lfs ps) u) : EqR K H 2 v u true := by
  have kin : ∀ ps : List Lf, Kins (ps.map lf) (ps.map lf) := fun ps => by
    induction ps with
    | nil => exact trivial
    | cons p ps ih => exact ⟨by simp [lf, tI, row3, Kin, Kins], ih⟩
  have dp : ∀ ps : List Lf, deps (ps.map lf) ≤ 1 := fun ps => by
    induction ps with
    | nil => simp [deps]
    | cons p ps ih => simp [deps, lf, tI, row3, dep] at ih ⊢; omega
  have e := h.eqr (K := K) (n := 2) (by have := dp ps; unfold lfs dep; omega) (by unfold lfs Kin; exact kin ps) k
  rw [eqD_self] at e
  exact e
def TupS (H H' : Hp) : Prop := ∀ a xs, H a = some (.tup xs) → H' a = some (.tup xs)
theorem TupS.upd {H : Hp} {b : Addr} {zs ys : List V} (hb : H b = some (.lst zs)) : TupS H (L2.upd H b (.lst ys)) := fun a xs e => by
  rw [upd_ne (by rintro rfl; rw [hb] at e; cases e)]; exact e
theorem iss_lf {H H' : Hp} (t : TupS H H') : ∀ {ps : List Lf} {vs : List V}, Iss H (ps.map lf) vs → Iss H' (ps.map lf) vs
  | [], _, h => by rw [of_nil h]; exact iss_nil
  | p :: ps, _, h => by
    obtain ⟨u, us, rfl, h1, h2⟩ := of_cons h
    obtain ⟨a, rfl, ha⟩ := of_lf h1
    exact iss_cons (is_lf (t _ _ ha)) (iss_lf t h2)
theorem eqr_lfs (ps qs : List Lf) {K : PySem.W.Frag} {H : Hp} {v u : V} (h : Is H (lfs ps) v) (k : Is H (lfs qs) u) : EqR K H 2 v u (decide (ps = qs)) := by
  have kin : ∀ ps qs : List Lf, Kins (ps.map lf) (qs.map lf) := fun ps => by
    induction ps with
    | nil => intro qs; cases qs <;> exact trivial
    | cons p ps ih =>
      intro qs
      cases qs with
      | nil => exact trivial
      | cons q qs => exact ⟨by simp [lf, tI, row3, Kin, Kins], ih qs⟩
  have dp : ∀ ps : List Lf, deps (ps.map lf) ≤ 1 := fun ps => by
    induction ps with
    | nil => simp [deps]
    | cons p ps ih => simp [deps, lf, tI, row3, dep] at ih ⊢; omega
  have e := h.eqr (K := K) (n := 2) (by have := dp ps; unfold lfs dep; omega) (by unfold lfs Kin; exact kin ps qs) k
  have e1 : ∀ p q : Lf, eqD (lf p) (lf q) = decide (p = q) := fun p q => by
    obtain ⟨a, b, c⟩ := p
    obtain ⟨d, e, f⟩ := q
    simp [lf, tI, row3, eqD, eqDs, Bool.and_assoc]
  have e2 : ∀ ps qs : List Lf, eqDs (ps.map lf) (qs.map lf) = decide (ps = qs) := fun ps => by
    induction ps with
    | nil => intro qs; cases qs <;> simp [eqDs]
    | cons p ps ih =>
      intro qs
      cases qs with
      | nil => simp [eqDs]
      | cons q qs => simp [eqDs, e1, ih]
  have : eqD (lfs ps) (lfs qs) = decide (ps = qs) := by
    unfold lfs
    rw [eqD]
    exact e2 ps qs
  rwa [this] at e
/-! lists of lifts by < -/
def ltLf (p q : Lf) : Bool := if p.1 = q.1 then (if p.2.1 = q.2.1 then decide (p.2.2 < q.2.2) else decide (p.2.1 < q.2.1)) else decide (p.1 < q.1)
theorem ltr_lf {K : PySem.W.Frag} {H : Hp} {p q : Lf} {v w : V} (h : Is H (lf p) v) (k : Is H (lf q) w) : LtR K H 1 v w (ltLf p q) := by
  obtain ⟨a, rfl, ha⟩ := of_lf h
  obtain ⟨b, rfl, hb⟩ := of_lf k
  have e := LtR.tuples (K := K) (H := H) (d := 0) (a := a) (b := b) (fun j => if j = 0 then decide (p.1 = q.1) else if j = 1 then decide (p.2.1 = q.2.1) else decide (p.2.2 = q.2.2)) (fun j => if j = 0 then decide (p.1 < q.1) else if j = 1 then decide (p.2.1 < q.2.1) else decide (p.2.2 < q.2.2)) (SqT.of ha) (SqT.of hb) (fun j x y hx hy => ?_) (fun j x y hx hy _ => ?_)
  · have e2 : SeqAt.lex (fun j => if j = 0 then decide (p.1 = q.1) else if j = 1 then decide (p.2.1 = q.2.1) else decide (p.2.2 = q.2.2)) (fun j => if j = 0 then decide (p.1 < q.1) else if j = 1 then decide (p.2.1 < q.2.1) else decide (p.2.2 < q.2.2)) 3 3 3 0 = ltLf p q := by
      unfold ltLf
      by_cases e0 : p.1 = q.1
      · by_cases e1 : p.2.1 = q.2.1
        · by_cases e2 : p.2.2 = q.2.2
          · simp [SeqAt.lex, e0, e1, e2]
          · simp [SeqAt.lex, e0, e1, e2]
        · simp [SeqAt.lex, e0, e1]
      · simp [SeqAt.lex, e0]
    exact e2 ▸ e
  · match j, hx, hy with
    | 0, hx, hy => cases hx; cases hy; exact EqR.int 0 _ _
    | 1, hx, hy => cases hx; cases hy; exact EqR.int 0 _ _
    | 2, hx, hy => cases hx; cases hy; exact EqR.int 0 _ _
    | j + 3, hx, _ => simp at hx
  · match j, hx, hy with
    | 0, hx, hy => cases hx; cases hy; exact LtR.int 0 _ _
    | 1, hx, hy => cases hx; cases hy; exact LtR.int 0 _ _
    | 2, hx, hy => cases hx; cases hy; exact LtR.int 0 _ _
    | j + 3, hx, _ => simp at hx
/-! without the lists of an earlier heap -/
def Fine (ps : List Lf) : Prop := ps.length ≤ 20 ∧ ∀ p ∈ ps, OkL p
def Rest (H : Hp) (b : Addr) (z : Int) : Prop := H b = some (.lst [.int z]) ∧ 0 ≤ z
def spShL (_ : PySem.W.Frag) : Sp := fun vs H Q _ => ∃ (v : V) (p : Lf), vs = [v] ∧ Is H (lf p) v ∧ OkL p ∧ Q (.str (wrd p)) H
def spText (_ : PySem.W.Frag) : Sp := fun vs H Q _ => ∃ (v : V) (ps : List Lf), vs = [v] ∧ Is H (lfs ps) v ∧ Fine ps ∧ ∀ H', Same H H' → Q (.str (textF ps)) H'
theorem ltI_lf (p q : Lf) : ltI (row3 p) (row3 q) = ltLf p q := by
  unfold ltLf ltI row3
  simp only [lexI, List.length_cons, List.length_nil]
  split
  · split
    · split
      · rename_i h; simp [h]
      · rfl
    · rfl
  · rfl
theorem wrd_inj {p q : Lf} (hp : OkL p) (hq : OkL q) (h : wrd p = wrd q) : p = q := by
  have a := lawL_iff.mpr ⟨hp, (rfl : wrd p = wrd p)⟩
  have b := lawL_iff.mpr ⟨hq, (rfl : wrd q = wrd q)⟩
  rw [h, b] at a
  exact (Option.some.inj a).symm
theorem isT_split {t : Str} {ps : List Lf} (h : IsT t ps) (hn : t ≠ Str.ofString "none") : ps ≠ [] ∧ Txt.split t (Str.ofString " ") = ps.map wrd := by
  obtain ⟨rfl, _, ok⟩ := h
  have h0 : ps ≠ [] := fun z => hn (by rw [z]; rfl)
  exact ⟨h0, split_text h0 ok⟩
theorem maps_inj {ps qs : List Lf} (hp : ∀ p ∈ ps, OkL p) (hq : ∀ q ∈ qs, OkL q) (h : ps.map wrd = qs.map wrd) : ps = qs := by
  induction ps generalizing qs with
  | nil => cases qs with
    | nil => rfl
    | cons q qs => cases h
  | cons p ps ih => cases qs with
    | nil => cases h
    | cons q qs =>
      simp only [List.map_cons, List.cons.injEq] at h
      rw [wrd_inj (hp p (by simp)) (hq q (by simp)) h.1, ih (fun x hx => hp x (by simp [hx])) (fun x hx => hq x (by simp [hx])) h.2]
def spNoR (c : Addr) : Sp := fun vs H Q E => ∃ (z : Str) (m : Nat), vs = [.str z, .int m] ∧ Fit 100 z ∧ (m = 1 ∨ m = 2) ∧ ((∃ n, NtOk z m n ∧ ∀ H', Same H H' → Q (.int n) H') ∨ ((∀ n, ¬ NtOk z m n) ∧ ∀ H', Same H H' → E (.ref c) none H'))
def spRdR (c : Addr) : Sp := fun vs H Q E => ∃ (z : Str), vs = [.str z] ∧ Fit 100 z ∧ ((∃ p, OkL p ∧ z = wrd p ∧ ∀ (t : Addr) (H' : Hp), Same H H' → H' t = some (.tup [.int p.1, .int p.2.1, .int p.2.2]) → Q (.ref t) H') ∨ ((∀ p, OkL p → z ≠ wrd p) ∧ ∀ H', Same H H' → E (.ref c) none H'))
def spRdDR (c : Addr) : Sp := fun vs H Q E => ∃ (t : Str), vs = [.str t] ∧ Fit 100 t ∧ ((∃ ps, IsT t ps ∧ ∀ (l : Addr) (H' : Hp), Same H H' → Is H' (lfs ps) (.ref l) → Q (.ref l) H') ∨ ((∀ ps, ¬ IsT t ps) ∧ ∀ H', Same H H' → E (.ref c) none H'))
def spLLift (_ : PySem.W.Frag) : Sp := fun vs H Q _ => ∃ (z : Str), vs = [.str z] ∧ Fit 100 z ∧ (lawL z.cps.toList = none → Q .non H) ∧ ∀ p, lawL z.cps.toList = some p → ∀ (t : Addr) (H' : Hp), Same H H' → H' t = some (.tup [.int p.1, .int p.2.1, .int p.2.2]) → Q (.ref t) H'
def spLRead (_ : PySem.W.Frag) : Sp := fun vs H Q _ => ∃ (t : Str), vs = [.str t] ∧ Fit 100 t ∧ (∀ ps, IsT t ps → ∀ (l : Addr) (H' : Hp), Same H H' → Is H' (lfs ps) (.ref l) → Q (.ref l) H') ∧ ((∀ ps, ¬ IsT t ps) → ∀ H', Same H H' → Q .non H')
def spRef (_ : PySem.W.Frag) : Sp := fun vs H Q _ => ∃ (t : Str), vs = [.str t] ∧ Fit 100 t ∧ (∀ ps, ¬ IsT t ps) ∧ ∀ H', Same H H' → Q (.bl true) H'
def spLfs (_ : PySem.W.Frag) : Sp := fun vs H Q _ => ∃ (b : Addr) (z : Int), vs = [.ref b] ∧ Rest H b z ∧ ∀ (ps : List Lf) (l : Addr) (H' : Hp), But b H H' → Is H' (lfs ps) (.ref l) → ps.length ≤ 6 → (∀ p ∈ ps, OkL p) → Q (.ref l) H'
def spSpo (_ : PySem.W.Frag) : Sp := fun vs H Q _ => ∃ (t : Str) (b : Addr) (z : Int) (n : Nat), vs = [.str t, .ref b] ∧ Fit n t ∧ n ≤ 90 ∧ Rest H b z ∧ ∀ (u : Str) (z' : Int) (H' : Hp), But b H H' → Fit (n + 5) u → Rest H' b z' → Q (.str u) H'
section
variable {P : Program} {w : World} {K : PySem.W.Frag} {mg : Str → Option Value} {base : Heap} (T : Fns K mg)
theorem ok__law_cell_at : FnOk P w K mg base CX0 1 T.f__law_cell_at T.d__law_cell_at ["_law_script", "_law_k"] (spCell K) := by
  refine T.F__law_cell_at.ok sc__law_cell_at (fun vs H Q E h => ?_) (fun cdv A outer s H vs Q E hr h => ?_)
  · obtain ⟨_, _, _, rfl, _⟩ := h
    rfl
  · obtain ⟨a, ns, k, rfl, hS, h0, kk⟩ := h
    refine ⟨_, (pss_cons (ps_if (pt_cmpR op_lt (pv 1) (pe_callB call_len_seq (by rfl) T.n_len boot_len (pa_cons (pv 0) pa_nil)) (nomark _)) (pss_one (ps_ret (pe_ix ix_list (pv 0) (pv 1) (fun _ _ => rfl)))) pss_nil)
      (pss_one (ps_ret pe_int))), ?_⟩
    refine ⟨_, rfl, _, rfl, a, _, rfl, .inl hS, _, _, rfl, rfl, _, rfl, ?_⟩
    refine iteD (fun h => ?_) (fun _ => kk 0)
    rw [List.length_map] at h
    have hk : k.toNat < ns.length := by omega
    refine ⟨_, rfl, _, rfl, a, _, k, .int ns[k.toNat], rfl, rfl, hS, ?_, kk _⟩
    have e : ((k.toNat : Nat) : Int) = k := by omega
    have := atI_nat (xs := ns.map V.int) (j := k.toNat) (v := .int ns[k.toNat]) (by simp [hk])
    rw [e] at this
    exact this
theorem ok__law_great : FnOk P w K mg base CX0 1 T.f__law_great T.d__law_great ["_law_cell"] (spGreat K) := by
  refine T.F__law_great.ok sc__law_great (fun vs H Q E h => ?_) (fun cdv A outer s H vs Q E hr h => ?_)
  · obtain ⟨_, rfl, _⟩ := h
    rfl
  · obtain ⟨x, rfl, kk⟩ := h
    refine ⟨_, (pss_cons (ps_if (pt_cmpR op_ge (pv 0) (pe_op op_pow pe_int pe_int) (nomark _)) (pss_one (ps_ret (pe_op op_sub (pv 0) (pe_op op_pow pe_int pe_int)))) pss_nil)
      (pss_cons (ps_if (pt_cmpR op_le (pv 0) (pe_op op_sub pe_int (pe_op op_pow pe_int pe_int)) (nomark _)) (pss_one (ps_ret (pe_op op_sub (pe_op op_sub pe_int (pv 0)) (pe_op op_pow pe_int pe_int)))) pss_nil)
      (pss_cons (ps_set (i := 1) sc__law_great.nd rfl (by first | exact Or.inl rfl | exact Or.inr rfl) (pe_op op_add (pe_op op_mod (pv 0) pe_int) pe_int))
      (pss_cons (ps_set (i := 2) sc__law_great.nd rfl (by first | exact Or.inl rfl | exact Or.inr rfl) pe_int)
      (pss_cons (ps_for PassesOwn.never rfl (pi_range1 (by rfl) T.n_range (pa_cons pe_int pa_nil)) (pg_name (i := 3) sc__law_great.nd rfl (by first | exact Or.inl rfl | exact Or.inr rfl)) (pss_cons (ps_set (i := 1) sc__law_great.nd rfl (by first | exact Or.inl rfl | exact Or.inr rfl) (pe_op op_mod (pe_op op_add (pe_op op_add (pe_op op_add (pe_op op_mul (pv 1) pe_int) (pe_op op_mul (pe_op op_mul pe_int (pv 3)) (pv 3))) (pe_op op_fdiv (pv 1) pe_int)) pe_int) pe_int))
      (pss_one (ps_set (i := 2) sc__law_great.nd rfl (by first | exact Or.inl rfl | exact Or.inr rfl) (pe_op op_add (pe_op op_mul (pv 2) pe_int) (pe_op op_mod (pe_op op_mul (pv 1) pe_int) pe_int))))))
      (pss_one (ps_ret (pv 2)))))))), ?_⟩
    have e18 : (10 : Int) ^ (18 : Int).toNat = 10 ^ 18 := rfl
    refine ⟨_, rfl, 10, 18, rfl, rfl, ⟨by decide, by decide, by decide⟩, _, _, rfl, rfl, _, rfl, iteD (fun h => ?_) (fun h => ?_)⟩
    · exact ⟨_, rfl, 10, 18, rfl, rfl, ⟨by decide, by decide, by decide⟩, _, _, rfl, rfl, kk _ (by omega)⟩
    · refine ⟨_, rfl, 10, 18, rfl, rfl, ⟨by decide, by decide, by decide⟩, _, _, rfl, rfl, _, _, rfl, rfl, _, rfl, iteD (fun h2 => ?_) (fun h2 => ?_)⟩
      · exact ⟨_, rfl, _, _, rfl, rfl, 10, 18, rfl, rfl, ⟨by decide, by decide, by decide⟩, _, _, rfl, rfl, kk _ (by omega)⟩
      · refine ⟨_, rfl, _, _, rfl, rfl, (show (0 : Int) < 2147483629 by decide), _, _, rfl, rfl, ?_⟩
        refine ⟨8, rfl, by decide, by decide, for_range (n := 8) (fun i σ H2 => (∃ (y f : Int) (v3 : Option V), σ = [some (.int x), some (.int y), some (.int f), v3] ∧ 0 ≤ y ∧ 0 ≤ f) ∧ H2 = H) ⟨⟨_, 0, none, rfl, by omega, by decide⟩, rfl⟩ ?_ ?_⟩
        · rintro i σ H2 hi ⟨⟨y, f, v3, rfl, y0, f0⟩, rfl⟩
          refine ⟨_, rfl, _, _, rfl, rfl, .inr ⟨by decide, by decide⟩, _, rfl, _, _, rfl, rfl, .inl ⟨by decide, by decide⟩, _, rfl, _, _, rfl, rfl, .inr ⟨by omega, by omega⟩, _, _, rfl, rfl, _, rfl, _, _, rfl, rfl, ⟨by decide, by decide⟩, _, _, rfl, rfl, _, _, rfl, rfl, _, _, rfl, rfl, (show (0 : Int) < 2147483647 by decide), ?_⟩
          refine ⟨_, rfl, _, _, rfl, rfl, .inr ⟨by decide, by decide⟩, _, rfl, _, _, rfl, rfl, .inr ⟨by decide, by decide⟩, _, _, rfl, rfl, (show (0 : Int) < 2147483629 by decide), _, _, rfl, rfl, ?_⟩
          exact ⟨⟨_, _, _, rfl, Int.emod_nonneg _ (by decide), Int.add_nonneg (Int.mul_nonneg f0 (by decide)) (Int.emod_nonneg _ (by decide))⟩, rfl⟩
        · rintro σ H2 ⟨⟨y, f, v3, rfl, y0, f0⟩, rfl⟩
          exact ⟨_, rfl, kk _ f0⟩
theorem ok__law_digit : FnOk P w K mg base CX0 1 T.f__law_digit T.d__law_digit ["_law_rest", "_law_m"] (spDig K) := by
  refine T.F__law_digit.ok sc__law_digit (fun vs H Q E h => ?_) (fun cdv A outer s H vs Q E hr h => ?_)
  · obtain ⟨_, _, _, rfl, _⟩ := h
    rfl
  · obtain ⟨b, m, z, rfl, hb, z0, m0, m1, kk⟩ := h
    refine ⟨_, (pss_cons (ps_set (i := 2) sc__law_digit.nd rfl (by first | exact Or.inl rfl | exact Or.inr rfl) (pe_op op_mod (pe_ix ix_list (pv 0) pe_int (fun _ _ => rfl)) (pv 1)))
      (pss_cons (ps_asg (pe_op op_fdivB (pe_ix ix_list (pv 0) pe_int (fun _ _ => rfl)) (pv 1)) (pg_sub (pv 0) pe_int set_list))
      (pss_one (ps_ret (pv 2))))), ?_⟩
    refine ⟨_, rfl, b, _, _, _, rfl, rfl, SqL.of hb, by rfl, _, rfl, _, _, rfl, rfl, m0, ?_⟩
    refine ⟨_, rfl, b, _, _, _, rfl, rfl, SqL.of hb, by rfl, _, rfl, _, _, rfl, rfl, bits60 m0 m1, _, rfl, b, _, _, 0, rfl, rfl, hb, by rfl, ?_⟩
    exact ⟨_, rfl, kk _ _ (Int.emod_nonneg _ (by omega)) (Int.emod_lt_of_pos _ m0) (Int.fdiv_nonneg z0 (by omega))⟩
theorem ok_show_lift : FnOk P w K mg base CX0 1 T.f_show_lift T.d_show_lift ["lift"] (spShL K) := by
  refine T.F_show_lift.ok sc_show_lift (fun vs H Q E h => ?_) (fun cdv A outer s H vs Q E hr h => ?_)
  · obtain ⟨_, _, rfl, _⟩ := h
    rfl
  · obtain ⟨v, p, rfl, hv, hp, kk⟩ := h
    refine ⟨_, (pss_cons (ps_set (i := 1) sc_show_lift.nd rfl (by first | exact Or.inl rfl | exact Or.inr rfl) (pe_ix ix_tupN (pv 0) pe_int (fun _ _ => rfl)))
      (pss_cons (ps_set (i := 2) sc_show_lift.nd rfl (by first | exact Or.inl rfl | exact Or.inr rfl) (pe_ix ix_tupN (pv 0) pe_int (fun _ _ => rfl)))
      (pss_cons (ps_set (i := 3) sc_show_lift.nd rfl (by first | exact Or.inl rfl | exact Or.inr rfl) (pe_ix ix_tupN (pv 0) pe_int (fun _ _ => rfl)))
      (pss_one (ps_ret (pe_ifExp (pt_cmpR op_eq (pv 3) pe_int (nomark _)) (pe_fstr (pj_cons (pe_fint (pv 1)) (pj_cons pe_str (pj_cons (pe_fint (pv 2)) pj_nil)))) (pe_fstr (pj_cons (pe_fint (pv 1)) (pj_cons pe_str (pj_cons (pe_fint (pv 2)) (pj_cons pe_str (pj_cons (pe_fint (pv 3)) pj_nil)))))))))))), ?_⟩
    have sz := size9
    obtain ⟨h1, h2, h3, h4, h5⟩ := id hp
    obtain ⟨a1, a2, _⟩ := num_ok h1 (by omega)
    obtain ⟨b1, b2, _⟩ := num_ok (n := p.2.1) (by omega) (by omega)
    obtain ⟨c1, c2, _⟩ := num_ok h4 h5
    refine ⟨_, rfl, _, 0, _, hv, rfl, rfl, fun u hu => ?_⟩
    rw [of_i hu]
    refine ⟨_, rfl, _, 1, _, hv, rfl, rfl, fun u hu => ?_⟩
    rw [of_i hu]
    refine ⟨_, rfl, _, 2, _, hv, rfl, rfl, fun u hu => ?_⟩
    rw [of_i hu]
    unfold wrd at kk
    refine ⟨_, rfl, rfl, _, rfl, iteE (fun e => ?_) (fun e => ?_)⟩
    · rw [if_pos e] at kk
      refine ⟨_, rfl, _, rfl, log60 h1 (by omega), _, rfl, ?_, _, rfl, ?_, _, rfl, _, rfl, log60 (by omega) (by omega), _, rfl, ?_, ?_⟩
      · rw [Str.length_append, em_len]; show _ + (S1 p.1).length ≤ _; omega
      · rw [Str.length_append, Str.length_append, em_len, d_len]; show _ + (S1 p.1).length + 1 ≤ _; omega
      · rw [Str.length_append, Str.length_append, Str.length_append, em_len, d_len]; show _ + (S1 p.1).length + 1 + (S1 p.2.1).length ≤ _; omega
      · rw [Str.empty_append]
        exact ⟨by rw [Str.length_append, Str.length_append, d_len]; show (S1 p.1).length + 1 + (S1 p.2.1).length ≤ _; omega, kk⟩
    · rw [if_neg e] at kk
      refine ⟨_, rfl, _, rfl, log60 h1 (by omega), _, rfl, ?_, _, rfl, ?_, _, rfl, _, rfl, log60 (by omega) (by omega), _, rfl, ?_, _, rfl, ?_, _, rfl, _, rfl, log60 h4 h5, _, rfl, ?_, ?_⟩
      · rw [Str.length_append, em_len]; show _ + (S1 p.1).length ≤ _; omega
      · rw [Str.length_append, Str.length_append, em_len, d_len]; show _ + (S1 p.1).length + 1 ≤ _; omega
      · rw [Str.length_append, Str.length_append, Str.length_append, em_len, d_len]; show _ + (S1 p.1).length + 1 + (S1 p.2.1).length ≤ _; omega
      · rw [Str.length_append, Str.length_append, Str.length_append, Str.length_append, em_len, d_len, x_len]; show _ + (S1 p.1).length + 1 + (S1 p.2.1).length + 1 ≤ _; omega
      · rw [Str.length_append, Str.length_append, Str.length_append, Str.length_append, Str.length_append, em_len, d_len, x_len]; show _ + (S1 p.1).length + 1 + (S1 p.2.1).length + 1 + (S1 p.2.2).length ≤ _; omega
      · rw [Str.empty_append]
        exact ⟨by rw [Str.length_append, Str.length_append, Str.length_append, Str.length_append, d_len, x_len]; show (S1 p.1).length + 1 + (S1 p.2.1).length + 1 + (S1 p.2.2).length ≤ _; omega, kk⟩
theorem ok__law_text : FnOk P w K mg base CX0 1 T.f__law_text T.d__law_text ["_law_lifts_here"] (spText K) := by
  refine T.F__law_text.ok sc__law_text (fun vs H Q E h => ?_) (fun cdv A outer s H vs Q E hr h => ?_)
  · obtain ⟨_, _, rfl, _⟩ := h
    rfl
  · obtain ⟨v, ps, rfl, hv, hf, kk⟩ := h
    refine ⟨_, (pss_cons (ps_set (i := 1) sc__law_text.nd rfl (by first | exact Or.inl rfl | exact Or.inr rfl) (pe_lstN pa_nil))
      (pss_cons (ps_for PassesOwn.never rfl (pi_list (pv 0)) (pg_tup rfl (pgs_cons (pg_name (i := 2) sc__law_text.nd rfl (by first | exact Or.inl rfl | exact Or.inr rfl)) (pgs_cons (pg_name (i := 3) sc__law_text.nd rfl (by first | exact Or.inl rfl | exact Or.inr rfl)) (pgs_cons (pg_name (i := 4) sc__law_text.nd rfl (by first | exact Or.inl rfl | exact Or.inr rfl)) pgs_nil)))) (pss_cons (ps_set (i := 5) sc__law_text.nd rfl (by first | exact Or.inl rfl | exact Or.inr rfl) (pe_op op_add_str (pe_op op_add_str (pe_callTy call_str_int (by rfl) T.n_str boot_str (pa_cons (pv 2) pa_nil)) pe_str) (pe_callTy call_str_int (by rfl) T.n_str boot_str (pa_cons (pv 3) pa_nil))))
      (pss_cons (ps_mid (ps_if (pt_cmpR op_gt (pv 4) pe_int (nomark _)) (pss_one (ps_set (i := 5) sc__law_text.nd rfl (by first | exact Or.inl rfl | exact Or.inr rfl) (pe_op op_add_str (pe_op op_add_str (pv 5) pe_str) (pe_callTy call_str_int (by rfl) T.n_str boot_str (pa_cons (pv 4) pa_nil))))) pss_nil))
      (pss_one (ps_expr (pe_bm PySem.F.plainAttrs_list PySem.F.slot_list_append PySem.F.type_list_append mt_append (pv 1) (pa_cons (pv 5) pa_nil)))))))
      (pss_one (ps_ret (pe_ifExp (pt_cmpR (op_neS hr) (pv 1) (pe_lstN pa_nil) (nomark _)) (pe_bm PySem.F.plainAttrs_str PySem.F.slot_str_join PySem.F.type_str_join mt_join pe_str (pa_cons (pv 1) pa_nil)) pe_str))))), ?_⟩
    have sz := size9
    obtain ⟨da, dvs, rfl, hda, hdi⟩ := of_l hv
    have dlen : dvs.length = ps.length := by rw [hdi.length, List.length_map]
    have hl := hf.1
    refine ⟨Nat.zero_le _, fun ws H1 n1 s1 h1 => ?_⟩
    refine ⟨_, rfl, da, rfl, ⟨_, SqL.of (s1 _ _ hda)⟩, for_list (xs := dvs) (fun i σ H2 => (∃ v2 v3 v4 v5, σ = [some (.ref da), some (.ref ws), v2, v3, v4, v5]) ∧ Same H H2 ∧ H2 ws = some (.lst (((ps.take i).map wrd).map V.str))) ⟨⟨none, none, none, none, rfl⟩, s1, h1⟩ (fun i σ H2 _ h => SqL.of (h.2.1 _ _ hda)) ?_ ?_⟩
    · rintro i y σ H2 hi ⟨⟨v2, v3, v4, v5, rfl⟩, s2, hws⟩
      obtain ⟨dd, hdd, hy⟩ := hdi.of_get hi
      rw [List.getElem?_map] at hdd
      obtain ⟨p, hp', rfl⟩ := Option.map_eq_some_iff.mp hdd
      have hp := hf.2 p (List.mem_of_getElem? hp')
      obtain ⟨p1, p2, p3, p4, p5⟩ := id hp
      obtain ⟨a1, a2, _⟩ := num_ok p1 (by omega)
      obtain ⟨b1, b2, _⟩ := num_ok (n := p.2.1) (by omega) (by omega)
      obtain ⟨c1, c2, _⟩ := num_ok p4 p5
      obtain ⟨t, rfl, ht⟩ := of_lf (hy.mono s2)
      refine ⟨t, _, rfl, SqT.of ht, rfl, _, _, rfl, _, _, rfl, _, _, rfl, rfl, ?_⟩
      refine ⟨_, rfl, p.1, rfl, log60 p1 (by omega), _, _, rfl, rfl, ?_, _, rfl, p.2.1, rfl, log60 (by omega) (by omega), _, _, rfl, rfl, ?_, ?_⟩
      · rw [d_len]; show (S1 p.1).length + 1 ≤ _; omega
      · rw [Str.length_append, d_len]; show (S1 p.1).length + 1 + (S1 p.2.1).length ≤ _; omega
      refine ⟨fun σ H4 => H4 = H2 ∧ σ = [some (.ref da), some (.ref ws), some (.int p.1), some (.int p.2.1), some (.int p.2.2), some (.str (wrd p))], ?_, ?_⟩
      · refine ⟨_, rfl, _, _, rfl, rfl, _, rfl, iteD (fun h => ?_) (fun h => ?_)⟩
        · refine ⟨_, rfl, _, _, rfl, rfl, ?_, _, rfl, p.2.2, rfl, log60 p4 p5, _, _, rfl, rfl, ?_, rfl, ?_⟩
          · rw [Str.length_append, Str.length_append, d_len, x_len]; show (S1 p.1).length + 1 + (S1 p.2.1).length + 1 ≤ _; omega
          · rw [Str.length_append, Str.length_append, Str.length_append, d_len, x_len]; show (S1 p.1).length + 1 + (S1 p.2.1).length + 1 + (S1 p.2.2).length ≤ _; omega
          · unfold wrd
            rw [if_neg (by omega)]
            rfl
        · refine ⟨rfl, ?_⟩
          unfold wrd
          rw [if_pos (by omega)]
          rfl
      · rintro σ H4 ⟨rfl, rfl⟩
        refine ⟨_, rfl, .inl ⟨rfl, _, SqL.of hws⟩, _, rfl, ws, _, _, rfl, rfl, hws, small1000 ?_, ⟨_, _, _, _, rfl⟩, s2.put n1, ?_⟩
        · rw [List.length_map, List.length_map, List.length_take]; omega
        · rw [upd_same, List.take_add_one, hp', List.map_append, List.map_append]; rfl
    · rintro σ H2 ⟨⟨v2, v3, v4, v5, rfl⟩, s2, hws⟩
      rw [dlen, List.take_length] at hws
      unfold textF at kk
      refine ⟨_, rfl, Nat.zero_le _, fun le H5 n5 s5 h5 => ?_⟩
      by_cases h0 : ps = []
      · subst h0
        exact ⟨1, true, EqR.lists (fun _ => true) (SqL.of (s5 _ _ hws)) (SqL.of h5) rfl (fun j x y hx => nomatch hx), by decide, _, rfl, iteF (by have := kk H5 (s2.trans s5); rw [if_pos rfl] at this; exact this)⟩
      · refine ⟨1, false, EqR.lens (SqL.of (s5 _ _ hws)) (SqL.of h5) (by simpa using h0), by decide, _, rfl, iteT ⟨rfl, _, rfl, _, ws, ps.map wrd, rfl, rfl, SqL.of (s5 _ _ hws), ?_, by have := kk H5 (s2.trans s5); rw [if_neg h0] at this; exact this⟩⟩
        have h1 := words_len hf.2
        have h3 := sp_len
        rw [List.length_map]
        show _ + ps.length * (Str.ofString " ").length ≤ _
        rw [h3]
        omega
theorem ok_read_from_nought : FnOk P w K mg base (CX1 P w) 1 T.f_read_from_nought T.d_read_from_nought ["word", "most"] (spNoR T.c_NoText) := by
  refine T.F_read_from_nought.okx sc_read_from_nought (fun vs H Q E h => ?_) (fun cdv A outer s H vs Q E hr h hR hp => ?_)
  · obtain ⟨_, _, rfl, _⟩ := h
    rfl
  · obtain ⟨z, m, rfl, fz, hm, kk⟩ := h
    refine ⟨_, (pss_cons (ps_set (i := 2) sc_read_from_nought.nd rfl (by first | exact Or.inl rfl | exact Or.inr rfl) (pe_and (pe_cmpR op_ne (pv 0) pe_str (nomark _)) (pe_one (pe_callB (call_all rfl) (by rfl) T.n_all boot_all (pa_cons (pe_compB (XN := ["word", "most", "in_figures"]) (sc := defScope s_read_from_nought) (N := ["sign"]) (own := 1) (js := []) rfl (by decide +kernel) rfl rfl (pi_txt (pv 0)) (fun _ _ _ _ => (pg_name (i := 0) (show List.Nodup (["sign"] : List Str) by decide +kernel) rfl (Or.inl rfl) (.inr rfl))) (ownG_name (by decide)) (fun _ _ _ _ => pifs_nil) (fun _ _ _ _ => (pe_cmpR op_in_str (pv 0) (pe_glob (v := .str (Str.ofString "0123456789")) (by rfl) T.m_FIGURES ⟨_, rfl⟩) rfl))) pa_nil)))))
      (pss_cons (ps_if (pw_or (pt_not (pt_val (pv 2))) (pw_or (pt_cmpR op_gt (pe_callB call_len_str (by rfl) T.n_len boot_len (pa_cons (pv 0) pa_nil)) (pv 1) (nomark _)) (pw_or1 (pw_and (pt_val (pe_bm PySem.F.plainAttrs_str PySem.F.slot_str_startswith PySem.F.type_str_startswith mt_starts (pv 0) (pa_cons pe_str pa_nil))) (pw_and1 (pt_cmpR op_ne (pv 0) pe_str (nomark _)))).pt))).pt (pss_one (ps_raise hR (by rfl) T.m_NoText T.x_NoText rfl (pa_cons (pe_fstr (pj_cons pe_str (pj_cons (pe_fint (pv 1)) (pj_cons pe_str pj_nil)))) pa_nil))) pss_nil)
      (pss_one (ps_ret (pe_callTy call_int_txt (by rfl) T.n_int boot_int (pa_cons (pv 0) pa_nil)))))), ?_⟩
    have sz := size9
    have kR : (∀ n, ¬ NtOk z m n) → ∀ H', Same H H' → E (.ref T.c_NoText) none H' := fun hn H' s' => by
      rcases kk with ⟨n, hk, _⟩ | ⟨_, ke⟩
      · exact absurd hk (hn n)
      · exact ke H' s'
    have hlog : ((m : Int)).natAbs.log2 < 1920 := by rcases hm with rfl | rfl <;> decide
    have hsay : ∀ H' : Hp, (Str.empty ++ Str.ofString "not a whole number from 0 on, of at most ").length ≤ sizeLine ∧ (Str.empty ++ Str.ofString "not a whole number from 0 on, of at most " ++ Str.ofString (toString (m : Int))).length ≤ sizeLine ∧ (Str.empty ++ Str.ofString "not a whole number from 0 on, of at most " ++ Str.ofString (toString (m : Int)) ++ Str.ofString " figures").length ≤ sizeLine := fun _ => by
      rcases hm with rfl | rfl <;> decide +kernel
    by_cases h0 : z = Str.ofString ""
    · refine ⟨_, rfl, rfl, false, by rw [decide_eq_true (congrArg V.str h0)]; rfl, iteF ?_⟩
      refine ⟨_, rfl, false, rfl, iteT ?_⟩
      obtain ⟨y1, y2, y3⟩ := hsay H
      exact ⟨_, rfl, y1, _, rfl, _, rfl, hlog, _, rfl, y2, _, rfl, y3, y3, (by show 1 ≤ sizeLine; decide), kR (fun n hn => hn.1 h0) H (Same.refl _)⟩
    · have l1 := ne_em h0
      refine ⟨_, rfl, rfl, true, by rw [decide_eq_false (fun e => h0 (V.str.inj e))]; rfl, iteT ⟨_, rfl, z, rfl, fz.asc, fun acc na => ?_⟩⟩
      refine comp_txt (x := z) (own := 1) (js := []) (fun i H3 => Same H H3 ∧ i ≤ z.cps.size ∧ H3 acc = some (.lst (((z.cps.toList.take i).map dig).map V.bl))) ⟨Same.new na, Nat.zero_le _, upd_same⟩ ?_ ?_ mono_name mono_yes ?_
      · rintro i c H3 hc ⟨s3, hi, hacc⟩
        obtain ⟨hi', hc'⟩ := Array.getElem?_eq_some_iff.mp hc
        have hsz : z.cps.size ≤ 100 := fz.1
        have cl : c < 128 := fz.2 c (by rw [← hc']; exact Array.mem_toList_iff.mpr (Array.getElem_mem hi'))
        refine yesN ?_
        refine ⟨_, rfl, _, _, rfl, rfl, acc, _, _, rfl, rfl, hacc, small1000 (by rw [List.length_map, List.length_map, List.length_take]; omega), s3.put na, hi', ?_⟩
        have ht : z.cps.toList[i]? = some c := by rw [Array.getElem?_toList]; exact hc
        rw [upd_same, fig_is c cl, Bool.not_not, List.take_add_one, ht, List.map_append, List.map_append]
        rfl
      · rintro H3 ⟨s3, _, hacc⟩
        rw [List.take_of_length_le (by rw [Array.length_toList]; exact Nat.le_refl _)] at hacc
        obtain ⟨y1, y2, y3⟩ := hsay H3
        refine ⟨acc, _, rfl, SqL.of hacc, ?_⟩
        by_cases hd : ((z.cps.toList.map dig).all id) = true
        · have hd' : ∀ c ∈ z.cps.toList, 48 ≤ c ∧ c < 58 := fun c hc => by
            rw [List.all_map, List.all_eq_true] at hd
            have := hd c hc
            unfold dig at this
            simpa using this
          rw [hd]
          refine ⟨_, rfl, true, rfl, iteF ⟨_, rfl, _, rfl, by have := fz.1; omega, _, rfl, _, _, rfl, rfl, _, rfl, iteD (fun h => ?_) (fun h => ?_)⟩⟩
          · exact iteT ⟨_, rfl, y1, _, rfl, _, rfl, hlog, _, rfl, y2, _, rfl, y3, y3, (by show 1 ≤ sizeLine; decide), kR (fun n hn => by have := hn.2.2.1; omega) H3 s3⟩
          · have l2 : z.length ≤ m := by omega
            refine ⟨_, rfl, rfl, _, _, rfl, rfl, _, rfl, ?_⟩
            obtain ⟨n, _, hn⟩ := int_fig l1 (by rcases hm with rfl | rfl <;> omega) hd'
            by_cases hs : Txt.startswith z (Str.ofString "0") = true
            · rw [hs]
              refine iteT ⟨_, rfl, rfl, _, rfl, iteDn (fun he => ?_) (fun he => ?_)⟩
              · exact ⟨_, rfl, y1, _, rfl, _, rfl, hlog, _, rfl, y2, _, rfl, y3, y3, (by show 1 ≤ sizeLine; decide), kR (fun n hn => hn.2.2.2.1 ⟨hs, fun e => he (congrArg V.str e)⟩) H3 s3⟩
              · have ok : NtOk z m n := ⟨h0, hd', l2, fun ⟨_, e⟩ => e (V.str.inj he), hn⟩
                refine ⟨_, rfl, _, _, rfl, hn, by have := fz.1; omega, ?_⟩
                rcases kk with ⟨n', hk, kk⟩ | ⟨hk, _⟩
                · have : n' = n := by have := hk.2.2.2.2; rw [hn] at this; exact (Option.some.inj this).symm
                  rw [← this]
                  exact kk H3 s3
                · exact absurd ok (hk _)
            · have hs' : Txt.startswith z (Str.ofString "0") = false := by simpa using hs
              have ok : NtOk z m n := ⟨h0, hd', l2, fun ⟨e, _⟩ => hs e, hn⟩
              rw [hs']
              refine iteF (iteF ⟨_, rfl, _, _, rfl, hn, by have := fz.1; omega, ?_⟩)
              rcases kk with ⟨n', hk, kk⟩ | ⟨hk, _⟩
              · have : n' = n := by have := hk.2.2.2.2; rw [hn] at this; exact (Option.some.inj this).symm
                rw [← this]
                exact kk H3 s3
              · exact absurd ok (hk _)
        · have hd' : ((z.cps.toList.map dig).all id) = false := by simpa using hd
          rw [hd']
          refine ⟨_, rfl, false, rfl, iteT ?_⟩
          refine ⟨_, rfl, y1, _, rfl, _, rfl, hlog, _, rfl, y2, _, rfl, y3, y3, (by show 1 ≤ sizeLine; decide), kR (fun n hn => hd ?_) H3 s3⟩
          rw [List.all_map, List.all_eq_true]
          intro c hc
          have := hn.2.1 c hc
          show dig c = true
          unfold dig
          simpa using this
      · rintro σ H R R' k ⟨v1, e1, i, j, e2, e3, h⟩
        exact ⟨v1, e1, i, j, e2, e3, k _ _ h⟩
theorem ok_read_lift : FnOk P w K mg base (CX1 P w) 2 T.f_read_lift T.d_read_lift ["word"] (spRdR T.c_NoText) := by
  refine T.F_read_lift.okx sc_read_lift (fun vs H Q E h => ?_) (fun cdv A outer s H vs Q E hr h hR hp => ?_)
  · obtain ⟨_, rfl, _⟩ := h
    rfl
  · obtain ⟨z, rfl, fz, kk⟩ := h
    refine ⟨_, (pss_cons (ps_set (i := 1) sc_read_lift.nd rfl (by first | exact Or.inl rfl | exact Or.inr rfl) (pe_bm PySem.F.plainAttrs_str PySem.F.slot_str_split PySem.F.type_str_split mt_split (pv 0) (pa_cons pe_str pa_nil)))
      (pss_cons (ps_if (pt_cmpR op_ne (pe_callB call_len_seq (by rfl) T.n_len boot_len (pa_cons (pv 1) pa_nil)) pe_int (nomark _)) (pss_one (ps_raise hR (by rfl) T.m_NoText T.x_NoText rfl (pa_cons pe_str pa_nil))) pss_nil)
      (pss_cons (ps_set (i := 2) sc_read_lift.nd rfl (by first | exact Or.inl rfl | exact Or.inr rfl) (pe_bm PySem.F.plainAttrs_str PySem.F.slot_str_split PySem.F.type_str_split mt_split (pe_ix ix_list (pv 1) pe_int (fun _ _ => rfl)) (pa_cons pe_str pa_nil)))
      (pss_cons (ps_set (i := 3) sc_read_lift.nd rfl (by first | exact Or.inl rfl | exact Or.inr rfl) (pe_call (ok_read_from_nought T) (hr.mono (by decide)) (by rfl) T.m_read_from_nought T.F_read_from_nought.kp T.B_read_from_nought .nil hp (pa_cons (pe_ix ix_list (pv 1) pe_int (fun _ _ => rfl)) (pa_cons pe_int pa_nil))))
      (pss_cons (ps_set (i := 4) sc_read_lift.nd rfl (by first | exact Or.inl rfl | exact Or.inr rfl) (pe_call (ok_read_from_nought T) (hr.mono (by decide)) (by rfl) T.m_read_from_nought T.F_read_from_nought.kp T.B_read_from_nought .nil hp (pa_cons (pe_ix ix_list (pv 2) pe_int (fun _ _ => rfl)) (pa_cons pe_int pa_nil))))
      (pss_cons (ps_set (i := 5) sc_read_lift.nd rfl (by first | exact Or.inl rfl | exact Or.inr rfl) (pe_ifExp (pt_cmpR op_gt (pe_callB call_len_seq (by rfl) T.n_len boot_len (pa_cons (pv 2) pa_nil)) pe_int (nomark _)) (pe_call (ok_read_from_nought T) (hr.mono (by decide)) (by rfl) T.m_read_from_nought T.F_read_from_nought.kp T.B_read_from_nought .nil hp (pa_cons (pe_ix ix_list (pv 2) pe_int (fun _ _ => rfl)) (pa_cons pe_int pa_nil))) pe_int))
      (pss_cons (ps_if (pw_or (pt_not (pt_chain op_le op_lt pe_int (pv 3) (pv 4))) (pw_or (pt_not (pt_chain op_le op_le pe_int (pv 5) pe_int)) (pw_or1 (pt_cmpR op_ne (pe_call (ok_show_lift T) (hr.mono (by decide)) (by rfl) T.m_show_lift T.F_show_lift.kp T.B_show_lift .nil pass0 (pa_cons (pe_tupN (pa_cons (pv 3) (pa_cons (pv 4) (pa_cons (pv 5) pa_nil)))) pa_nil)) (pv 0) (nomark _))))).pt (pss_one (ps_raise hR (by rfl) T.m_NoText T.x_NoText rfl (pa_cons pe_str pa_nil))) pss_nil)
      (pss_one (ps_ret (pe_tupN (pa_cons (pv 3) (pa_cons (pv 4) (pa_cons (pv 5) pa_nil))))))))))))), ?_⟩
    have sz := size9
    have d1 : 0 < (Str.ofString "-").length := by rw [d_len]; decide
    have x1 : 0 < (Str.ofString "x").length := by rw [x_len]; decide
    rcases kk with ⟨p, hp, rfl, kk⟩ | ⟨hno, ke⟩
    · obtain ⟨h1, h2, h3, h4, h5⟩ := id hp
      have wl := wrd_len hp
      have ul := uw_len hp
      have fw : ∀ v ∈ Txt.split (wrd p) (Str.ofString "-"), Fit 100 v := fun v hv => by rw [s_dash] at hv; exact fit_split fz hv
      have f1 : Fit 100 (S1 p.1) := fw _ (by rw [split_wrd hp]; simp)
      have fu : Fit 100 (uw p) := fw _ (by rw [split_wrd hp]; simp)
      have fu' : ∀ v ∈ Txt.split (uw p) (Str.ofString "x"), Fit 100 v := fun v hv => by rw [s_x] at hv; exact fit_split fu hv
      refine ⟨_, rfl, rfl, wrd p, _, rfl, rfl, d1, by omega, by rw [split_wrd hp]; show 2 ≤ sizeLine; decide, fun fl H1 n1 s1 hfl => ?_⟩
      rw [split_wrd hp] at hfl
      refine ⟨_, rfl, fl, _, rfl, .inl (SqL.of hfl), rfl, _, rfl, iteNE (fun h => absurd rfl h) (fun _ => ?_)⟩
      refine ⟨_, rfl, fl, _, _, .str (uw p), rfl, rfl, SqL.of hfl, ix_D (j := 1) rfl rfl, rfl, uw p, _, rfl, rfl, x1, by omega, ?_, fun up H2 n2 s2 hup => ?_⟩
      · by_cases hw : p.2.2 = 1
        · rw [split_uw1 hp hw]; show 1 ≤ sizeLine; decide
        · rw [split_uw2 hp hw]; show 2 ≤ sizeLine; decide
      have s2' := s1.trans s2
      refine ⟨_, rfl, fl, _, _, .str (S1 p.1), rfl, rfl, SqL.of (s2 _ _ hfl), ix_D (j := 0) rfl rfl, S1 p.1, 1, rfl, f1, .inl rfl, .inl ⟨p.1, nt_num h1 (by omega) (by decide) (.inl (by omega)), fun H3 s3 => ?_⟩⟩
      by_cases hw : p.2.2 = 1
      · have f2 : Fit 100 (S1 p.2.1) := fu' _ (by rw [split_uw1 hp hw]; simp)
        rw [split_uw1 hp hw] at hup
        refine ⟨_, rfl, up, _, _, .str (S1 p.2.1), rfl, rfl, SqL.of (s3 _ _ hup), ix_D (j := 0) rfl rfl, S1 p.2.1, 1, rfl, f2, .inl rfl, .inl ⟨p.2.1, nt_num (by omega) (by omega) (by decide) (.inl (by omega)), fun H4 s4 => ?_⟩⟩
        refine ⟨_, rfl, up, _, rfl, .inl (SqL.of (s4 _ _ (s3 _ _ hup))), _, _, rfl, rfl, _, rfl, iteD (fun h => absurd h (show ¬ (1 : Int) < 1 by decide)) (fun _ => ?_)⟩
        refine ⟨_, rfl, _, _, rfl, rfl, _, rfl, iteD (fun _ => ⟨_, rfl, _, _, rfl, rfl, _, rfl, iteDn (fun h => absurd h2 h) (fun _ => ?_)⟩) (fun h => absurd h1 h)⟩
        refine ⟨_, rfl, _, _, rfl, rfl, _, rfl, iteD (fun _ => ⟨_, _, rfl, rfl, _, rfl, iteDn (fun h => absurd (show (1 : Int) ≤ 60 by decide) h) (fun _ => ?_)⟩) (fun h => absurd (show (1 : Int) ≤ 1 by decide) h)⟩
        refine ⟨_, rfl, _, rfl, _, rfl, (by show 3 ≤ sizeLine; decide), fun t H6 n6 s6 ht => ⟨_, p, rfl, is_lf (by rw [ht]; rw [hw]), hp, _, rfl, rfl, _, rfl, iteDn (fun h => absurd rfl h) (fun _ => ?_)⟩⟩
        exact ⟨_, rfl, _, rfl, _, rfl, (by show 3 ≤ sizeLine; decide), fun t2 H7 n7 s7 ht2 => kk t2 H7 (((s2'.trans (s3.trans s4)).trans s6).trans s7) (by rw [ht2]; rw [hw])⟩
      · have f2 : Fit 100 (S1 p.2.1) := fu' _ (by rw [split_uw2 hp hw]; simp)
        have f3 : Fit 100 (S1 p.2.2) := fu' _ (by rw [split_uw2 hp hw]; simp)
        rw [split_uw2 hp hw] at hup
        refine ⟨_, rfl, up, _, _, .str (S1 p.2.1), rfl, rfl, SqL.of (s3 _ _ hup), ix_D (j := 0) rfl rfl, S1 p.2.1, 1, rfl, f2, .inl rfl, .inl ⟨p.2.1, nt_num (by omega) (by omega) (by decide) (.inl (by omega)), fun H4 s4 => ?_⟩⟩
        refine ⟨_, rfl, up, _, rfl, .inl (SqL.of (s4 _ _ (s3 _ _ hup))), _, _, rfl, rfl, _, rfl, iteD (fun _ => ?_) (fun h => absurd (show (1 : Int) < 2 by decide) h)⟩
        refine ⟨_, rfl, up, _, _, .str (S1 p.2.2), rfl, rfl, SqL.of (s4 _ _ (s3 _ _ hup)), ix_D (j := 1) rfl rfl, S1 p.2.2, 2, rfl, f3, .inr rfl, .inl ⟨p.2.2, nt_num h4 h5 (by decide) (.inr (by decide)), fun H5 s5 => ?_⟩⟩
        refine ⟨_, rfl, _, _, rfl, rfl, _, rfl, iteD (fun _ => ⟨_, rfl, _, _, rfl, rfl, _, rfl, iteDn (fun h => absurd h2 h) (fun _ => ?_)⟩) (fun h => absurd h1 h)⟩
        refine ⟨_, rfl, _, _, rfl, rfl, _, rfl, iteD (fun _ => ⟨_, _, rfl, rfl, _, rfl, iteDn (fun h => absurd h5 h) (fun _ => ?_)⟩) (fun h => absurd h4 h)⟩
        refine ⟨_, rfl, _, rfl, _, rfl, (by show 3 ≤ sizeLine; decide), fun t H6 n6 s6 ht => ⟨_, p, rfl, is_lf (by rw [ht]), hp, _, rfl, rfl, _, rfl, iteDn (fun h => absurd rfl h) (fun _ => ?_)⟩⟩
        exact ⟨_, rfl, _, rfl, _, rfl, (by show 3 ≤ sizeLine; decide), fun t2 H7 n7 s7 ht2 => kk t2 H7 (((s2'.trans ((s3.trans s4).trans s5)).trans s6).trans s7) (by rw [ht2])⟩
    · have out : ∀ H', Same H H' → 1 ≤ sizeLine ∧ E (.ref T.c_NoText) none H' := fun H' s' => ⟨by decide, ke H' s'⟩
      have sl := split_le (c := 45) fz
      have fw : ∀ v ∈ Txt.split z (Str.ofString "-"), Fit 100 v := fun v hv => by rw [s_dash] at hv; exact fit_split fz hv
      rw [← s_dash] at sl
      refine ⟨_, rfl, rfl, z, _, rfl, rfl, d1, by have := fz.1; omega, by omega, fun fl H1 n1 s1 hfl => ?_⟩
      refine ⟨_, rfl, fl, _, rfl, .inl (SqL.of hfl), rfl, _, rfl, iteNE (fun h => out H1 s1) (fun h2 => ?_)⟩
      obtain ⟨f0, f1, hf⟩ : ∃ f0 f1, Txt.split z (Str.ofString "-") = [f0, f1] := by
        rw [List.length_map] at h2
        match hq : Txt.split z (Str.ofString "-"), h2 with
        | [a, b], _ => exact ⟨a, b, rfl⟩
        | [], h2 => exact absurd h2 (by simp)
        | [a], h2 => exact absurd h2 (by simp)
        | a :: b :: c :: r, h2 => exact absurd h2 (by simp only [List.length_cons]; omega)
      rw [hf] at hfl
      have q0 : Fit 100 f0 := fw _ (by rw [hf]; simp)
      have q1 : Fit 100 f1 := fw _ (by rw [hf]; simp)
      have ul := split_le (c := 120) q1
      have fu : ∀ v ∈ Txt.split f1 (Str.ofString "x"), Fit 100 v := fun v hv => by rw [s_x] at hv; exact fit_split q1 hv
      rw [← s_x] at ul
      refine ⟨_, rfl, fl, _, _, .str f1, rfl, rfl, SqL.of hfl, ix_D (j := 1) rfl rfl, rfl, f1, _, rfl, rfl, x1, by have := q1.1; omega, by omega, fun up H2 n2 s2 hup => ?_⟩
      have s2' := s1.trans s2
      refine ⟨_, rfl, fl, _, _, .str f0, rfl, rfl, SqL.of (s2 _ _ hfl), ix_D (j := 0) rfl rfl, f0, 1, rfl, q0, .inl rfl, ?_⟩
      by_cases hi : ∃ n, NtOk f0 1 n
      case neg => exact .inr ⟨fun n hn => hi ⟨n, hn⟩, fun H3 s3 => ke H3 (s2'.trans s3)⟩
      obtain ⟨i, hi⟩ := hi
      refine .inl ⟨i, hi, fun H3 s3 => ?_⟩
      have s3' := s2'.trans s3
      obtain ⟨u0, us, hu⟩ : ∃ u0 us, Txt.split f1 (Str.ofString "x") = u0 :: us := by
        have := split_ne f1 120
        rw [← s_x] at this
        match Txt.split f1 (Str.ofString "x"), this with
        | [], h => exact absurd rfl h
        | a :: r, _ => exact ⟨a, r, rfl⟩
      rw [hu] at hup fu
      refine ⟨_, rfl, up, _, _, .str u0, rfl, rfl, SqL.of (s3 _ _ hup), ix_D (j := 0) rfl rfl, u0, 1, rfl, fu _ (by simp), .inl rfl, ?_⟩
      by_cases hj : ∃ n, NtOk u0 1 n
      case neg => exact .inr ⟨fun n hn => hj ⟨n, hn⟩, fun H4 s4 => ke H4 (s3'.trans s4)⟩
      obtain ⟨j, hj⟩ := hj
      refine .inl ⟨j, hj, fun H4 s4 => ?_⟩
      have s4' := s3'.trans s4
      have j9 := nt_one hj
      refine ⟨_, rfl, up, _, rfl, .inl (SqL.of (s4 _ _ (s3 _ _ hup))), _, _, rfl, rfl, _, rfl, iteD (fun hgt => ?_) (fun _ => ?_)⟩
      · obtain ⟨v0, vs, hv⟩ : ∃ v0 vs, us = v0 :: vs := by
          match us, hgt with
          | [], h => exact absurd h (by show ¬ (1 : Int) < 1; decide)
          | a :: r, _ => exact ⟨a, r, rfl⟩
        subst hv
        refine ⟨_, rfl, up, _, _, .str v0, rfl, rfl, SqL.of (s4 _ _ (s3 _ _ hup)), ix_D (j := 1) rfl rfl, v0, 2, rfl, fu _ (by simp), .inr rfl, ?_⟩
        by_cases hk : ∃ n, NtOk v0 2 n
        case neg => exact .inr ⟨fun n hn => hk ⟨n, hn⟩, fun H5 s5 => ke H5 (s4'.trans s5)⟩
        obtain ⟨wt, hk⟩ := hk
        refine .inl ⟨wt, hk, fun H5 s5 => ?_⟩
        have s5' := s4'.trans s5
        refine ⟨_, rfl, _, _, rfl, rfl, _, rfl, iteD (fun a1 => ⟨_, rfl, _, _, rfl, rfl, _, rfl, iteDn (fun _ => out H5 s5') (fun a2 => ?_)⟩) (fun _ => ⟨_, rfl, out H5 s5'⟩)⟩
        refine ⟨_, rfl, _, _, rfl, rfl, _, rfl, iteD (fun a3 => ⟨_, _, rfl, rfl, _, rfl, iteDn (fun _ => out H5 s5') (fun a4 => ?_)⟩) (fun _ => ⟨_, rfl, out H5 s5'⟩)⟩
        have ok : OkL (i, j, wt) := ⟨a1, a2, j9.2, a3, a4⟩
        exact ⟨_, rfl, _, rfl, _, rfl, (by show 3 ≤ sizeLine; decide), fun t H6 n6 s6 ht => ⟨_, (i, j, wt), rfl, is_lf ht, ok, _, rfl, rfl, _, rfl, iteDn (fun _ => out H6 (s5'.trans s6)) (fun e => absurd (V.str.inj e).symm (hno _ ok))⟩⟩
      · refine ⟨_, rfl, _, _, rfl, rfl, _, rfl, iteD (fun a1 => ⟨_, rfl, _, _, rfl, rfl, _, rfl, iteDn (fun _ => out H4 s4') (fun a2 => ?_)⟩) (fun _ => ⟨_, rfl, out H4 s4'⟩)⟩
        refine ⟨_, rfl, _, _, rfl, rfl, _, rfl, iteD (fun a3 => ⟨_, _, rfl, rfl, _, rfl, iteDn (fun _ => out H4 s4') (fun a4 => ?_)⟩) (fun _ => ⟨_, rfl, out H4 s4'⟩)⟩
        have ok : OkL (i, j, 1) := ⟨a1, a2, j9.2, a3, a4⟩
        exact ⟨_, rfl, _, rfl, _, rfl, (by show 3 ≤ sizeLine; decide), fun t H6 n6 s6 ht => ⟨_, (i, j, 1), rfl, is_lf ht, ok, _, rfl, rfl, _, rfl, iteDn (fun _ => out H6 (s4'.trans s6)) (fun e => absurd (V.str.inj e).symm (hno _ ok))⟩⟩
theorem ok_read_drawing : FnOk P w K mg base (CX1 P w) 3 T.f_read_drawing T.d_read_drawing ["text"] (spRdDR T.c_NoText) := by
  refine T.F_read_drawing.okz sc_read_drawing (fun vs H Q E h => ?_) (fun cdv A outer s H vs Q E hr h hR hp hF hM => ?_)
  · obtain ⟨_, rfl, _⟩ := h
    rfl
  · obtain ⟨t, rfl, ft, kk⟩ := h
    refine ⟨_, (pss_cons (ps_if (pt_cmpR op_eq (pv 0) pe_str (nomark _)) (pss_one (ps_ret (pe_lstN pa_nil))) pss_nil)
      (pss_cons (ps_setcRB hF hM (i := 1) sc_read_drawing.nd rfl (by first | exact Or.inl rfl | exact Or.inr rfl) (.inl rfl) (XN := ["text", "lifts"]) (sc := defScope s_read_drawing) (N := ["word"]) (own := 1) (js := []) rfl (by decide +kernel) rfl rfl (pi_list (pe_bm PySem.F.plainAttrs_str PySem.F.slot_str_split PySem.F.type_str_split mt_split (pv 0) (pa_cons pe_str pa_nil))) (fun _ _ _ _ _ => (pg_name (i := 0) (show List.Nodup (["word"] : List Str) by decide +kernel) rfl (Or.inl rfl) (.inr rfl))) (ownG_name (by decide)) (fun _ _ _ _ _ => pifs_nil) (fun _ _ _ _ _ hp => (pe_call (ok_read_lift T) (hr.mono (by decide)) (by rfl) T.m_read_lift T.F_read_lift.kp T.B_read_lift .nil hp (pa_cons (pv 0) pa_nil))))
      (pss_cons (ps_if (pt_cmpR (op_neS hr) (pv 1) (pe_callB call_sortO (by rfl) T.n_sorted boot_sorted (pa_cons (pv 1) pa_nil)) (nomark _)) (pss_one (ps_raise hR (by rfl) T.m_NoText T.x_NoText rfl (pa_cons pe_str pa_nil))) pss_nil)
      (pss_one (ps_ret (pv 1)))))), ?_⟩
    have sz := size9
    refine ⟨_, rfl, rfl, _, rfl, iteD (fun hn => ?_) (fun hn => ?_)⟩
    · have hn := V.str.inj hn
      refine ⟨Nat.zero_le _, fun l H1 n1 s1 h1 => ?_⟩
      have i0 : IsT t [] := ⟨hn, pw_asc (by simp), fun _ z => nomatch z⟩
      rcases kk with ⟨ps, hps, kk⟩ | ⟨hno, _⟩
      · have : ps = [] := by
          by_cases h0 : ps = []
          · exact h0
          · exact absurd (hps.1.symm.trans hn) (text_none h0 hps.2.2)
        subst this
        exact kk l H1 s1 (is_l h1 iss_nil)
      · exact absurd i0 (hno _)
    · have hn : t ≠ Str.ofString "none" := fun e => hn (congrArg V.str e)
      have sp1 : 0 < (Str.ofString " ").length := by rw [sp_len]; decide
      have sl := split_le (c := 32) ft
      have fw : ∀ v ∈ Txt.split t (Str.ofString " "), Fit 100 v := fun v hv => by rw [s_sp] at hv; exact fit_split ft hv
      rw [← s_sp] at sl
      refine ⟨_, rfl, rfl, _, _, rfl, rfl, sp1, by have := ft.1; omega, by omega, fun wl H1 n1 s1 hwl => ⟨wl, rfl, ⟨_, SqL.of hwl⟩, fun acc na => ?_⟩⟩
      have nacc : H acc = none := s1.free na
      refine comp_list (xs := (Txt.split t (Str.ofString " ")).map V.str) (own := 1) (js := []) (fun j H4 => Same H1 H4 ∧ ∃ qs vs, (Txt.split t (Str.ofString " ")).take j = qs.map wrd ∧ (∀ q ∈ qs, OkL q) ∧ H4 acc = some (.lst vs) ∧ Iss H4 (qs.map lf) vs) ⟨Same.new na, [], [], rfl, (fun _ z => nomatch z), upd_same, iss_nil⟩ (fun j H4 _ h => SqL.of (h.1 _ _ hwl)) ?_ ?_ mono_name mono_yes ?_
      · rintro j x H4 hj ⟨s4, qs, vs, hqs, qok, hacc, hi⟩
        rw [List.getElem?_map] at hj
        obtain ⟨w0, hj2, rfl⟩ := Option.map_eq_some_iff.mp hj
        have ql : qs.length ≤ 101 := by
          have := congrArg List.length hqs
          rw [List.length_take, List.length_map] at this
          omega
        have vl : vs.length ≤ 101 := by rw [hi.length, List.length_map]; exact ql
        refine yesN ?_
        refine ⟨_, rfl, w0, rfl, fw _ (List.mem_of_getElem? hj2), ?_⟩
        by_cases hw : ∃ p, OkL p ∧ w0 = wrd p
        · obtain ⟨p, okp, ew⟩ := hw
          refine .inl ⟨p, okp, ew, fun t H5 s5 ht => ⟨acc, vs, _, rfl, rfl, s5 _ _ hacc, small1000 (by omega), (s4.trans s5).put na, qs ++ [p], _, ?_, fun q hq => ?_, upd_same, ?_⟩⟩
          · rw [List.take_add_one, hj2, hqs, List.map_append, ew]; rfl
          · rcases List.mem_append.mp hq with hq | hq
            · exact qok q hq
            · rw [List.mem_singleton.mp hq]; exact okp
          · refine iss_lf (TupS.upd (s5 _ _ hacc)) ?_
            rw [List.map_append]
            exact (hi.mono s5).append (iss_cons (is_lf ht) iss_nil)
        · refine .inr ⟨fun p okp e => hw ⟨p, okp, e⟩, fun H' s' => ?_⟩
          rcases kk with ⟨ps, hps, _⟩ | ⟨_, ke⟩
          · exfalso
            obtain ⟨_, e⟩ := isT_split hps hn
            rw [e, List.getElem?_map] at hj2
            obtain ⟨p, hp', e'⟩ := Option.map_eq_some_iff.mp hj2
            exact hw ⟨p, hps.2.2 p (List.mem_of_getElem? hp'), e'.symm⟩
          · exact ke H' ((s1.trans s4).trans s')
      · rintro H4 ⟨s4, qs, vs, hqs, qok, hacc, hi⟩
        rw [List.length_map, List.take_length] at hqs
        obtain ⟨q0, eT⟩ := words_text hqs
        have hv : Is H4 (lfs qs) (.ref acc) := is_l hacc hi
        have ql : 2 * qs.length ≤ 101 := by
          have e := split_len t 32
          rw [← s_sp, hqs, List.length_map] at e
          have := ft.1
          have : qs.length ≤ ((qs.map wrd).map (·.length)).sum := by
            clear hqs hi hv eT q0 e
            induction qs with
            | nil => exact Nat.zero_le _
            | cons q qs ih =>
              have h1 := ih fun p hp => qok p (by simp [hp])
              have h2 := (wrd_len (qok q (by simp))).1
              rw [List.map_cons, List.map_cons, List.sum_cons, List.length_cons]
              show qs.length + 1 ≤ (wrd q).length + _
              omega
          omega
        refine ⟨_, rfl, _, rfl, .ref acc, qs.map row3, 3, rfl, by rw [← lfs_rows]; exact hv, by decide, rows_len, by rw [List.length_map]; omega, fun yss q H5 hp' hasc nq s5 hq => ?_⟩
        obtain ⟨rs, hperm, rfl⟩ := rows_back hp'
        rw [← lfs_rows] at hq
        have hrs : Asc rs := hasc
        refine ⟨2, _, eqr_lfs qs rs (hv.mono s5) hq, by decide, _, rfl, iteDn (fun hne => ?_) (fun heq => ?_)⟩
        · refine ⟨by decide, ?_⟩
          rcases kk with ⟨ps, hps, _⟩ | ⟨_, ke⟩
          · exfalso
            obtain ⟨_, e⟩ := isT_split hps hn
            have : ps = qs := maps_inj hps.2.2 qok (e.symm.trans hqs)
            subst this
            refine hne ?_
            have := asc_eq hp' rows_len hasc hps.2.1
            exact (List.map_inj_right (fun _ _ => row3_inj)).mp this.symm
          · exact ke H5 ((s1.trans s4).trans s5)
        · refine ⟨_, rfl, ?_⟩
          rcases kk with ⟨ps, hps, kk⟩ | ⟨hno, _⟩
          · obtain ⟨_, e⟩ := isT_split hps hn
            have : ps = qs := maps_inj hps.2.2 qok (e.symm.trans hqs)
            subst this
            exact kk acc H5 ((s1.trans s4).trans s5) (hv.mono s5)
          · exact absurd ⟨eT, heq ▸ hrs, qok⟩ (hno qs)
      · rintro σ H R R' k ⟨v1, e1, z, e2, h1, h⟩
        refine ⟨v1, e1, z, e2, h1, ?_⟩
        rcases h with ⟨p, a, b, h⟩ | h
        · exact .inl ⟨p, a, b, fun t H' s' ht => k _ _ (h t H' s' ht)⟩
        · exact .inr h
theorem ok__law_lift : FnOk P w K mg base CX0 1 T.f__law_lift T.d__law_lift ["_law_word"] (spLLift K) := by
  refine T.F__law_lift.ok sc__law_lift (fun vs H Q E h => ?_) (fun cdv A outer s H vs Q E hr h => ?_)
  · obtain ⟨_, rfl, _⟩ := h
    rfl
  · obtain ⟨z, rfl, fz, kn, ks⟩ := h
    refine ⟨_, (pss_cons (ps_set (i := 1) sc__law_lift.nd rfl (by first | exact Or.inl rfl | exact Or.inr rfl) pe_str)
      (pss_cons (ps_if (pw_or (pt_cmpR op_lt (pe_callB call_len_str (by rfl) T.n_len boot_len (pa_cons (pv 0) pa_nil)) pe_int (nomark _)) (pw_or (pt_cmpR op_notIn_str (pe_ix ix_str (pv 0) pe_int (fun _ _ => rfl)) (pv 1) rfl) (pw_or (pt_cmpR op_ne (pe_ix ix_str (pv 0) pe_int (fun _ _ => rfl)) pe_str (nomark _)) (pw_or (pt_cmpR op_notIn_str (pe_ix ix_str (pv 0) pe_int (fun _ _ => rfl)) (pv 1) rfl) (pw_or1 (pt_cmpR op_ge_str (pe_ix ix_str (pv 0) pe_int (fun _ _ => rfl)) (pe_ix ix_str (pv 0) pe_int (fun _ _ => rfl)) (nomark _))))))).pt (pss_one (ps_ret pe_non)) pss_nil)
      (pss_cons (ps_if (pt_cmpR op_eq (pe_callB call_len_str (by rfl) T.n_len boot_len (pa_cons (pv 0) pa_nil)) pe_int (nomark _)) (pss_one (ps_ret (pe_tupN (pa_cons (pe_callTy call_int_txt (by rfl) T.n_int boot_int (pa_cons (pe_ix ix_str (pv 0) pe_int (fun _ _ => rfl)) pa_nil)) (pa_cons (pe_callTy call_int_txt (by rfl) T.n_int boot_int (pa_cons (pe_ix ix_str (pv 0) pe_int (fun _ _ => rfl)) pa_nil)) (pa_cons pe_int pa_nil)))))) pss_nil)
      (pss_cons (ps_set (i := 2) sc__law_lift.nd rfl (by first | exact Or.inl rfl | exact Or.inr rfl) (pe_slice sl_str (pv 0) (po_some pe_int) po_none))
      (pss_cons (ps_if (pw_or (pt_cmpR op_ne (pe_ix ix_str (pv 0) pe_int (fun _ _ => rfl)) pe_str (nomark _)) (pw_or (pt_cmpR op_lt (pe_callB call_len_str (by rfl) T.n_len boot_len (pa_cons (pv 2) pa_nil)) pe_int (nomark _)) (pw_or (pt_cmpR op_gt (pe_callB call_len_str (by rfl) T.n_len boot_len (pa_cons (pv 2) pa_nil)) pe_int (nomark _)) (pw_or (pt_cmpR op_notIn_str (pe_ix ix_str (pv 2) pe_int (fun _ _ => rfl)) (pv 1) rfl) (pw_or1 (pt_cmpR op_notIn_str (pe_ix ix_str (pv 2) (pe_un un_neg pe_int) (fun _ _ => rfl)) pe_str rfl)))))).pt (pss_one (ps_ret pe_non)) pss_nil)
      (pss_cons (ps_set (i := 3) sc__law_lift.nd rfl (by first | exact Or.inl rfl | exact Or.inr rfl) (pe_callTy call_int_txt (by rfl) T.n_int boot_int (pa_cons (pv 2) pa_nil)))
      (pss_cons (ps_if (pw_or (pt_cmpR op_lt (pv 3) pe_int (nomark _)) (pw_or1 (pt_cmpR op_gt (pv 3) pe_int (nomark _)))).pt (pss_one (ps_ret pe_non)) pss_nil)
      (pss_one (ps_ret (pe_tupN (pa_cons (pe_callTy call_int_txt (by rfl) T.n_int boot_int (pa_cons (pe_ix ix_str (pv 0) pe_int (fun _ _ => rfl)) pa_nil)) (pa_cons (pe_callTy call_int_txt (by rfl) T.n_int boot_int (pa_cons (pe_ix ix_str (pv 0) pe_int (fun _ _ => rfl)) pa_nil)) (pa_cons (pv 3) pa_nil))))))))))))), ?_⟩
    have sz := size9
    have zl : z.length ≤ sizeLine := by have := fz.1; omega
    have zs : z.length ≤ 640 := by have := fz.1; omega
    obtain ⟨⟨L⟩⟩ := z
    have fL : ∀ c ∈ L, c < 128 := fz.2
    rcases L with _ | ⟨a, _ | ⟨m, _ | ⟨b, r⟩⟩⟩
    · exact ⟨_, rfl, _, rfl, zl, _, _, rfl, rfl, _, rfl, iteD (fun _ => kn rfl) (fun h => absurd (show (0 : Int) < 3 by decide) h)⟩
    · exact ⟨_, rfl, _, rfl, zl, _, _, rfl, rfl, _, rfl, iteD (fun _ => kn rfl) (fun h => absurd (show (1 : Int) < 3 by decide) h)⟩
    · exact ⟨_, rfl, _, rfl, zl, _, _, rfl, rfl, _, rfl, iteD (fun _ => kn rfl) (fun h => absurd (show (2 : Int) < 3 by decide) h)⟩
    have la := fL a (by simp)
    have lb := fL b (by simp)
    refine ⟨_, rfl, _, rfl, zl, _, _, rfl, rfl, _, rfl, iteD (fun h => absurd h (by show ¬ ((r.length + 3 : Nat) : Int) < 3; omega)) (fun _ => ?_)⟩
    refine ⟨_, rfl, _, 0, a, rfl, rfl, zl, ix_D (j := 0) rfl rfl, _, rfl, _, _, rfl, rfl, _, rfl, ?_⟩
    rw [flo_is a la]
    cases ha : flo a with
    | false => exact iteT (kn (lawL_bad fun h => by rw [ha] at h; exact absurd h.1 (by decide)))
    | true =>
    refine iteF ⟨_, rfl, _, 1, m, rfl, rfl, zl, ix_D (j := 1) rfl rfl, rfl, _, rfl, iteDn (fun h => ?_) (fun hm => ?_)⟩
    · exact kn (lawL_bad fun ⟨_, e, _⟩ => h (by rw [e, ← s_dash]))
    have em : m = 45 := by
      have := V.str.inj hm
      rw [s_dash] at this
      injection this with this
      injection this with this
      injection this
    refine ⟨_, rfl, _, 2, b, rfl, rfl, zl, ix_D (j := 2) rfl rfl, _, rfl, _, _, rfl, rfl, _, rfl, ?_⟩
    rw [flo_is b lb]
    cases hb : flo b with
    | false => exact iteT (kn (lawL_bad fun h => by rw [hb] at h; exact absurd h.2.2.1 (by decide)))
    | true =>
    refine iteF ⟨_, rfl, _, 0, a, rfl, rfl, zl, ix_D (j := 0) rfl rfl, _, rfl, _, 2, b, rfl, rfl, zl, ix_D (j := 2) rfl rfl, _, _, rfl, rfl, _, rfl, iteDn (fun h => ?_) (fun hlt => ?_)⟩
    · exact kn (lawL_bad fun ⟨_, _, _, e⟩ => h (lt_one.mpr e))
    have hab : a < b := lt_one.mp hlt
    have na := flo_num ha
    have nb := flo_num hb
    have ia : PySem.intText? ⟨#[a]⟩ = some ((a - 48 : Nat) : Int) := by
      have := int1 (a - 48) (by omega)
      rwa [show 48 + (a - 48) = a by omega] at this
    have ib : PySem.intText? ⟨#[b]⟩ = some ((b - 48 : Nat) : Int) := by
      have := int1 (b - 48) (by omega)
      rwa [show 48 + (b - 48) = b by omega] at this
    rcases r with _ | ⟨x, r⟩
    · refine ⟨_, rfl, _, rfl, zl, rfl, _, rfl, iteE (fun _ => ?_) (fun h => absurd rfl h)⟩
      refine ⟨_, rfl, _, 0, a, rfl, rfl, zl, ix_D (j := 0) rfl rfl, _, _, rfl, ia, (by show 1 ≤ 640; decide), _, rfl, _, 2, b, rfl, rfl, zl, ix_D (j := 2) rfl rfl, _, _, rfl, ib, (by show 1 ≤ 640; decide), (by show 3 ≤ sizeLine; decide), fun t H' _ s' ht => ks _ (if_pos ⟨ha, em, hb, hab⟩) t H' s' ht⟩
    refine ⟨_, rfl, _, rfl, zl, rfl, _, rfl, iteE (fun h => absurd h (by show ¬ ((r.length + 4 : Nat) : Int) = 3; omega)) (fun _ => ?_)⟩
    refine ⟨_, rfl, _, rfl, _, rfl, zl, ?_⟩
    rw [sl_four]
    have rl : (⟨⟨r⟩⟩ : Str).length ≤ sizeLine := by
      have : (r.length + 4) ≤ sizeLine := zl
      show r.length ≤ sizeLine
      omega
    refine ⟨_, rfl, _, 3, x, rfl, rfl, zl, ix_D (j := 3) rfl rfl, rfl, _, rfl, iteDn (fun h => kn (lawL_bad2 fun e => h (by rw [e, ← s_x]))) (fun hx => ?_)⟩
    have ex : x = 120 := by
      have := V.str.inj hx
      rw [s_x] at this
      injection this with this
      injection this with this
      injection this
    subst em ex
    rcases r with _ | ⟨c, _ | ⟨e, _ | ⟨y, r⟩⟩⟩
    · exact ⟨_, rfl, _, rfl, rl, _, _, rfl, rfl, _, rfl, iteD (fun _ => kn rfl) (fun h => absurd (show (0 : Int) < 1 by decide) h)⟩
    · have lc := fL c (by simp)
      refine ⟨_, rfl, _, rfl, rl, _, _, rfl, rfl, _, rfl, iteD (fun h => absurd h (show ¬ (1 : Int) < 1 by decide)) (fun _ => ?_)⟩
      refine ⟨_, rfl, _, rfl, rl, _, _, rfl, rfl, _, rfl, iteD (fun h => absurd h (show ¬ (2 : Int) < 1 by decide)) (fun _ => ?_)⟩
      refine ⟨_, rfl, _, 0, c, rfl, rfl, rl, ix_D (j := 0) rfl rfl, _, rfl, _, _, rfl, rfl, _, rfl, ?_⟩
      rw [flo_is c lc]
      cases hc : flo c with
      | false => exact iteT (kn (if_neg fun h => by rw [hc] at h; exact absurd h.2.2.2.2.2.1 (by decide)))
      | true =>
      have nc := flo_num hc
      refine iteF ⟨_, rfl, _, rfl, _, -1, c, rfl, rfl, rl, rfl, _, _, rfl, rfl, _, rfl, ?_⟩
      rw [fig_is c lc]
      have dc : dig c = true := by unfold dig; simp; omega
      have ic : PySem.intText? ⟨#[c]⟩ = some ((c - 48 : Nat) : Int) := by
        have := int1 (c - 48) (by omega)
        rwa [show 48 + (c - 48) = c by omega] at this
      rw [dc]
      refine iteF ⟨_, rfl, _, _, rfl, ic, (by show 1 ≤ 640; decide), _, rfl, _, _, rfl, rfl, _, rfl, iteD (fun h => kn (if_neg fun q => by have := q.2.2.2.2.2.2; omega)) (fun h2 => ?_)⟩
      refine ⟨_, rfl, _, _, rfl, rfl, _, rfl, iteD (fun h => absurd h (by omega)) (fun _ => ?_)⟩
      refine ⟨_, rfl, _, 0, a, rfl, rfl, zl, ix_D (j := 0) rfl rfl, _, _, rfl, ia, (by show 1 ≤ 640; decide), _, rfl, _, 2, b, rfl, rfl, zl, ix_D (j := 2) rfl rfl, _, _, rfl, ib, (by show 1 ≤ 640; decide), _, rfl, (by show 3 ≤ sizeLine; decide), fun t H' _ s' ht => ks _ (if_pos ⟨ha, rfl, hb, hab, rfl, hc, by omega⟩) t H' s' ht⟩
    · have lc := fL c (by simp)
      have le := fL e (by simp)
      refine ⟨_, rfl, _, rfl, rl, _, _, rfl, rfl, _, rfl, iteD (fun h => absurd h (show ¬ (2 : Int) < 1 by decide)) (fun _ => ?_)⟩
      refine ⟨_, rfl, _, rfl, rl, _, _, rfl, rfl, _, rfl, iteD (fun h => absurd h (show ¬ (2 : Int) < 2 by decide)) (fun _ => ?_)⟩
      refine ⟨_, rfl, _, 0, c, rfl, rfl, rl, ix_D (j := 0) rfl rfl, _, rfl, _, _, rfl, rfl, _, rfl, ?_⟩
      rw [flo_is c lc]
      cases hc : flo c with
      | false => exact iteT (kn (if_neg fun h => by rw [hc] at h; exact absurd h.2.2.2.2.2.1 (by decide)))
      | true =>
      have nc := flo_num hc
      refine iteF ⟨_, rfl, _, rfl, _, -1, e, rfl, rfl, rl, rfl, _, _, rfl, rfl, _, rfl, ?_⟩
      rw [fig_is e le]
      cases he : dig e with
      | false =>
        refine iteT (kn (if_neg fun h => ?_))
        have h7 := h.2.2.2.2.2.2
        unfold dig at he
        simp at he
        omega
      | true =>
      have ne : 48 ≤ e ∧ e < 58 := by unfold dig at he; simpa using he
      have ic : PySem.intText? ⟨#[c, e]⟩ = some ((10 * (c - 48) + (e - 48) : Nat) : Int) := by
        have := int2 (c - 48) (by omega) (e - 48) (by omega)
        rwa [show 48 + (c - 48) = c by omega, show 48 + (e - 48) = e by omega] at this
      refine iteF ⟨_, rfl, _, _, rfl, ic, (by show 2 ≤ 640; decide), _, rfl, _, _, rfl, rfl, _, rfl, iteD (fun h => absurd h (by omega)) (fun h2 => ?_)⟩
      refine ⟨_, rfl, _, _, rfl, rfl, _, rfl, iteD (fun h => kn (if_neg fun q => by have := q.2.2.2.2.2.2.2.2; omega)) (fun h3 => ?_)⟩
      refine ⟨_, rfl, _, 0, a, rfl, rfl, zl, ix_D (j := 0) rfl rfl, _, _, rfl, ia, (by show 1 ≤ 640; decide), _, rfl, _, 2, b, rfl, rfl, zl, ix_D (j := 2) rfl rfl, _, _, rfl, ib, (by show 1 ≤ 640; decide), _, rfl, (by show 3 ≤ sizeLine; decide), fun t H' _ s' ht => ks _ (if_pos ⟨ha, rfl, hb, hab, rfl, hc, ne.1, by omega, by omega⟩) t H' s' ht⟩
    · refine ⟨_, rfl, _, rfl, rl, _, _, rfl, rfl, _, rfl, iteD (fun h => absurd h (by show ¬ ((r.length + 3 : Nat) : Int) < 1; omega)) (fun _ => ?_)⟩
      exact ⟨_, rfl, _, rfl, rl, _, _, rfl, rfl, _, rfl, iteD (fun _ => kn rfl) (fun h => absurd (show (2 : Int) < ((r.length + 3 : Nat) : Int) by omega) h)⟩
theorem ok__law_read : FnOk P w K mg base CX0 2 T.f__law_read T.d__law_read ["_law_text_here"] (spLRead K) := by
  refine T.F__law_read.ok sc__law_read (fun vs H Q E h => ?_) (fun cdv A outer s H vs Q E hr h => ?_)
  · obtain ⟨_, rfl, _⟩ := h
    rfl
  · obtain ⟨t, rfl, ft, ks, kn⟩ := h
    refine ⟨_, (pss_cons (ps_if (pt_cmpR op_eq (pv 0) pe_str (nomark _)) (pss_one (ps_ret (pe_lstN pa_nil))) pss_nil)
      (pss_cons (ps_set (i := 1) sc__law_read.nd rfl (by first | exact Or.inl rfl | exact Or.inr rfl) (pe_lstN pa_nil))
      (pss_cons (ps_for PassesOwn.never rfl (pi_list (pe_bm PySem.F.plainAttrs_str PySem.F.slot_str_split PySem.F.type_str_split mt_split (pv 0) (pa_cons pe_str pa_nil))) (pg_name (i := 2) sc__law_read.nd rfl (by first | exact Or.inl rfl | exact Or.inr rfl)) (pss_cons (ps_set (i := 3) sc__law_read.nd rfl (by first | exact Or.inl rfl | exact Or.inr rfl) (pe_call (ok__law_lift T) (hr.mono (by decide)) (by rfl) T.m__law_lift T.F__law_lift.kp T.B__law_lift .nil pass0 (pa_cons (pv 2) pa_nil)))
      (pss_cons (ps_if (pw_or (pt_cmpR op_isN (pv 3) pe_non (nomark _)) (pw_or1 (pw_and (pt_cmpR op_gt (pe_callB call_lenN (by rfl) T.n_len boot_len (pa_cons (pv 1) pa_nil)) pe_int (nomark _)) (pw_and1 (pt_cmpR (op_ltS hr) (pv 3) (pe_ix ix_listN (pv 1) (pe_un un_neg pe_int) (fun _ _ => rfl)) (nomark _)))).pt)).pt (pss_one (ps_ret pe_non)) pss_nil)
      (pss_one (ps_expr (pe_bm PySem.F.plainAttrs_list PySem.F.slot_list_append PySem.F.type_list_append mt_append (pv 1) (pa_cons (pv 3) pa_nil)))))))
      (pss_one (ps_ret (pv 1)))))), ?_⟩
    have sz := size9
    refine ⟨_, rfl, rfl, _, rfl, iteD (fun hn => ?_) (fun hn => ?_)⟩
    · exact ⟨Nat.zero_le _, fun l H1 n1 s1 h1 => ks [] ⟨V.str.inj hn, pw_asc (by simp), fun _ z => nomatch z⟩ l H1 s1 (is_l h1 iss_nil)⟩
    · have hn : t ≠ Str.ofString "none" := fun e => hn (congrArg V.str e)
      have sp1 : 0 < (Str.ofString " ").length := by rw [sp_len]; decide
      have sl := split_le (c := 32) ft
      have fw : ∀ v ∈ Txt.split t (Str.ofString " "), Fit 100 v := fun v hv => by rw [s_sp] at hv; exact fit_split ft hv
      rw [← s_sp] at sl
      refine ⟨Nat.zero_le _, fun la H1 n1 s1 h1 => ?_⟩
      refine ⟨_, rfl, rfl, _, _, rfl, rfl, sp1, by have := ft.1; omega, by omega, fun wl H2 n2 s2 hwl => ⟨wl, rfl, ⟨_, SqL.of hwl⟩, ?_⟩⟩
      have wla : wl ≠ la := by rintro rfl; rw [h1] at n2; cases n2
      refine for_list (xs := (Txt.split t (Str.ofString " ")).map V.str) (fun i σ H3 => (∃ v2 v3, σ = [some (.str t), some (.ref la), v2, v3]) ∧ Same H H3 ∧ H3 wl = some (.lst ((Txt.split t (Str.ofString " ")).map V.str)) ∧ ∃ qs vs, (Txt.split t (Str.ofString " ")).take i = qs.map wrd ∧ (∀ q ∈ qs, OkL q) ∧ Asc qs ∧ H3 la = some (.lst vs) ∧ Iss H3 (qs.map lf) vs) ⟨⟨none, none, rfl⟩, s1.trans s2, hwl, [], [], rfl, (fun _ z => nomatch z), pw_asc (by simp), s2 _ _ h1, iss_nil⟩ (fun i σ H3 _ h => SqL.of h.2.2.1) ?_ ?_
      · rintro i x σ H3 hi ⟨⟨v2, v3, rfl⟩, s3, hwl3, qs, vs, hqs, qok, qasc, hla, hvs⟩
        rw [List.getElem?_map] at hi
        obtain ⟨w0, hj2, rfl⟩ := Option.map_eq_some_iff.mp hi
        have ql : qs.length ≤ 101 := by
          have := congrArg List.length hqs
          rw [List.length_take, List.length_map] at this
          omega
        have vl : vs.length ≤ 101 := by rw [hvs.length, List.length_map]; exact ql
        refine ⟨_, rfl, w0, rfl, fw _ (List.mem_of_getElem? hj2), fun hnone => ?_, fun p hp tp H4 s4 ht => ?_⟩
        · refine ⟨_, rfl, rfl, _, rfl, iteD (fun _ => kn (fun ps hps => ?_) H3 s3) (fun h => absurd rfl h)⟩
          obtain ⟨_, e⟩ := isT_split hps hn
          rw [e, List.getElem?_map] at hj2
          obtain ⟨p, hp', e'⟩ := Option.map_eq_some_iff.mp hj2
          rw [lawL_iff.mpr ⟨hps.2.2 p (List.mem_of_getElem? hp'), e'.symm⟩] at hnone
          cases hnone
        · obtain ⟨okp, ew⟩ := lawL_iff.mp hp
          have hla4 : H4 la = some (.lst vs) := s4 _ _ hla
          have hv4 : Is H4 (lfs qs) (.ref la) := is_l hla4 (hvs.mono s4)
          have tk1 : (Txt.split t (Str.ofString " ")).take (i + 1) = (qs ++ [p]).map wrd := by
            rw [List.take_add_one, hj2, hqs, List.map_append, ew]; rfl
          have add : Asc (qs ++ [p]) → (∃ v2 v3, [some (V.str t), some (.ref la), some (.str w0), some (.ref tp)] = [some (.str t), some (.ref la), v2, v3]) ∧ Same H (upd H4 la (.lst (vs ++ [.ref tp]))) ∧ upd H4 la (.lst (vs ++ [.ref tp])) wl = some (.lst ((Txt.split t (Str.ofString " ")).map V.str)) ∧ ∃ qs vs', (Txt.split t (Str.ofString " ")).take (i + 1) = qs.map wrd ∧ (∀ q ∈ qs, OkL q) ∧ Asc qs ∧ upd H4 la (.lst (vs ++ [.ref tp])) la = some (.lst vs') ∧ Iss (upd H4 la (.lst (vs ++ [.ref tp]))) (qs.map lf) vs' := fun ha => by
            refine ⟨⟨_, _, rfl⟩, (s3.trans s4).put n1, by rw [upd_ne wla]; exact s4 _ _ hwl3, qs ++ [p], _, tk1, fun q hq => ?_, ha, upd_same, ?_⟩
            · rcases List.mem_append.mp hq with hq | hq
              · exact qok q hq
              · rw [List.mem_singleton.mp hq]; exact okp
            · refine iss_lf (TupS.upd hla4) ?_
              rw [List.map_append]
              exact (hvs.mono s4).append (iss_cons (is_lf ht) iss_nil)
          refine ⟨_, rfl, rfl, _, rfl, iteD (fun h => nomatch h) (fun _ => ?_)⟩
          refine ⟨_, rfl, .ref la, _, rfl, .inl hv4, _, _, rfl, rfl, _, rfl, iteD (fun hgt => ?_) (fun hle => ?_)⟩
          · rcases List.eq_nil_or_concat qs with rfl | ⟨rs, q, rfl⟩
            · exact absurd hgt (by decide)
            rw [List.concat_eq_append] at *
            refine ⟨_, rfl, _, rfl, _, rfl, _, _, lf q, hv4, rfl, ?_, fun u hu => ?_⟩
            · show atI ((rs ++ [q]).map lf) (-1) = some (lf q)
              unfold atI ixN
              rw [if_neg (by decide), if_pos (by rw [List.length_map, List.length_append]; simp; omega)]
              show (List.map lf (rs ++ [q]))[_]? = _
              rw [List.map_append, List.getElem?_append_right (by simp; omega)]
              simp only [List.length_map, List.length_append, List.length_cons, List.length_nil]
              rw [show (-1 + ((rs.length + (0 + 1) : Nat) : Int)).toNat - rs.length = 0 by omega]
              rfl
            refine ⟨1, _, ltr_lf (is_lf ht) hu, by decide, _, rfl, ?_⟩
            rw [← ltI_lf]
            cases hlt : ltI (row3 p) (row3 q) with
            | true =>
              refine iteT (kn (fun ps hps => ?_) H4 (s3.trans s4))
              obtain ⟨_, e⟩ := isT_split hps hn
              have e2 : ps.take (i + 1) = rs ++ [q] ++ [p] := maps_inj (fun x hx => hps.2.2 x (List.mem_of_mem_take hx)) (fun x hx => by
                rcases List.mem_append.mp hx with hx | hx
                · exact qok x hx
                · rw [List.mem_singleton.mp hx]; exact okp) (by rw [List.map_take, ← e]; exact tk1)
              have := (pw_last (e2 ▸ asc_take (i := i + 1) hps.2.1)).2
              rw [hlt] at this
              cases this
            | false => exact iteF ⟨_, rfl, .inl ⟨rfl, _, SqL.of hla4⟩, _, rfl, la, vs, _, rfl, rfl, hla4, small1000 (by omega), add (pw_add qasc hlt)⟩
          · have : qs = [] := List.length_eq_zero_iff.mp (by rw [List.length_map] at hle; omega)
            subst this
            exact ⟨_, rfl, .inl ⟨rfl, _, SqL.of hla4⟩, _, rfl, la, vs, _, rfl, rfl, hla4, small1000 (by omega), add asc_one⟩
      · rintro σ H3 ⟨⟨v2, v3, rfl⟩, s3, hwl3, qs, vs, hqs, qok, qasc, hla, hvs⟩
        rw [List.length_map, List.take_length] at hqs
        exact ⟨_, rfl, ks qs ⟨(words_text hqs).2, qasc, qok⟩ la H3 s3 (is_l hla hvs)⟩
theorem ok__law_refused : FnOk P w K mg base CX0 4 T.f__law_refused T.d__law_refused ["_law_text_here"] (spRef K) := by
  refine T.F__law_refused.oky sc__law_refused (fun vs H Q E h => ?_) (fun cdv A outer s H vs Q E hr h hF => ?_)
  · obtain ⟨_, rfl, _⟩ := h
    rfl
  · obtain ⟨t, rfl, ft, hno, kk⟩ := h
    refine ⟨_, (pss_cons (ps_try (i := 1) hF rfl sc__law_refused.nd rfl (by first | exact Or.inl rfl | exact Or.inr rfl) rfl (by rfl) T.m_CurveError (fun E pn z hp => (pss_one (ps_expr (pe_call (ok_read_drawing T) (hr.mono (by decide)) (by rfl) T.m_read_drawing T.F_read_drawing.kp T.B_read_drawing .nil hp (pa_cons (pv 0) pa_nil))))) (fun e => (pss_cons (ps_if (pt_val (pe_callB (call_isxsK (K := K) rfl) (by rfl) T.n_isinstance boot_isinstance (pa_cons (pv 1) (pa_cons (pe_tupN (pa_cons (pe_glob (v := .ref T.c_NoBound) (by rfl) T.m_NoBound (by rfl)) (pa_cons (pe_glob (v := .ref T.c_NoDrawing) (by rfl) T.m_NoDrawing (by rfl)) (pa_cons (pe_glob (v := .ref T.c_NoEnds) (by rfl) T.m_NoEnds (by rfl)) (pa_cons (pe_glob (v := .ref T.c_NoNumber) (by rfl) T.m_NoNumber (by rfl)) pa_nil))))) pa_nil)))) (pss_one (ps_ret pe_bl)) pss_nil)
      (pss_one (ps_ret (pe_and (pe_callB (call_isxK (K := K) rfl) (by rfl) T.n_isinstance boot_isinstance (pa_cons (pv 1) (pa_cons (pe_glob (v := .ref T.c_NoText) (by rfl) T.m_NoText (by rfl)) pa_nil))) (pe_one (pe_callB (call_isxK (K := K) rfl) (by rfl) T.n_isinstance boot_isinstance (pa_cons (pv 1) (pa_cons (pe_bltn (v := .ty "ValueError") (by rfl) T.n_ValueError PyProof.Rows.Boot.«ValueError» (by rfl)) pa_nil))))))))))
      (pss_one (ps_ret pe_bl))), ?_⟩
    refine ⟨fun C _ H' => C = .ref T.c_NoText ∧ Same H H', ⟨_, rfl, t, rfl, ft, .inr ⟨hno, fun H' s' => ⟨rfl, s'⟩⟩⟩, fun C e H' ⟨eC, sH⟩ he => ?_⟩
    cases eC
    have s2 : Same H (upd H' e (excO T.c_NoText e)) := sH.trans (Same.new he)
    have hx : upd H' e (excO T.c_NoText e) e = some (excO T.c_NoText e) := upd_same
    generalize upd H' e (excO T.c_NoText e) = H2 at s2 hx ⊢
    refine ⟨T.e_NoText_CurveError, ?_⟩
    refine ⟨_, rfl, (by show 4 ≤ sizeLine; decide), fun tp H3 nt s3 ht3 => ?_⟩
    refine ⟨e, _, tp, _, _, false, rfl, s3 _ _ hx, T.X_NoText, ht3, rfl, T.ks_NoText_0, false, rfl, iteF ?_⟩
    refine ⟨_, rfl, e, _, .ref T.c_NoText, _, true, rfl, s3 _ _ hx, T.X_NoText, rfl, T.k_NoText_NoText, true, rfl, iteT ?_⟩
    exact ⟨_, rfl, e, _, .ty "ValueError", _, true, rfl, s3 _ _ hx, T.X_NoText, rfl, T.k_NoText_ValueError, kk _ (s2.trans s3)⟩
theorem ok__law_lifts : FnOk P w K mg base CX0 2 T.f__law_lifts T.d__law_lifts ["_law_rest"] (spLfs K) := by
  refine T.F__law_lifts.ok sc__law_lifts (fun vs H Q E h => ?_) (fun cdv A outer s H vs Q E hr h => ?_)
  · obtain ⟨_, _, rfl, _⟩ := h
    rfl
  · obtain ⟨b, z, rfl, hb, kk⟩ := h
    refine ⟨_, (pss_cons (ps_set (i := 1) sc__law_lifts.nd rfl (by first | exact Or.inl rfl | exact Or.inr rfl) (pe_lstN pa_nil))
      (pss_cons (ps_for PassesOwn.never rfl (pi_range1 (by rfl) T.n_range (pa_cons (pe_call (ok__law_digit T) (hr.mono (by decide)) (by rfl) T.m__law_digit T.F__law_digit.kp T.B__law_digit .nil pass0 (pa_cons (pv 0) (pa_cons pe_int pa_nil))) pa_nil)) (pg_name (i := 2) sc__law_lifts.nd rfl (by first | exact Or.inl rfl | exact Or.inr rfl)) (pss_cons (ps_set (i := 3) sc__law_lifts.nd rfl (by first | exact Or.inl rfl | exact Or.inr rfl) (pe_op op_add pe_int (pe_call (ok__law_digit T) (hr.mono (by decide)) (by rfl) T.m__law_digit T.F__law_digit.kp T.B__law_digit .nil pass0 (pa_cons (pv 0) (pa_cons pe_int pa_nil)))))
      (pss_cons (ps_set (i := 4) sc__law_lifts.nd rfl (by first | exact Or.inl rfl | exact Or.inr rfl) (pe_op op_add (pe_op op_add (pv 3) pe_int) (pe_call (ok__law_digit T) (hr.mono (by decide)) (by rfl) T.m__law_digit T.F__law_digit.kp T.B__law_digit .nil pass0 (pa_cons (pv 0) (pa_cons (pe_op op_sub pe_int (pv 3)) pa_nil)))))
      (pss_one (ps_expr (pe_bm PySem.F.plainAttrs_list PySem.F.slot_list_append PySem.F.type_list_append mt_append (pv 1) (pa_cons (pe_tupN (pa_cons (pv 3) (pa_cons (pv 4) (pa_cons (pe_ix ix_list (pe_lstN (pa_cons pe_int (pa_cons (pe_op op_add pe_int (pe_call (ok__law_digit T) (hr.mono (by decide)) (by rfl) T.m__law_digit T.F__law_digit.kp T.B__law_digit .nil pass0 (pa_cons (pv 0) (pa_cons pe_int pa_nil)))) pa_nil))) (pe_call (ok__law_digit T) (hr.mono (by decide)) (by rfl) T.m__law_digit T.F__law_digit.kp T.B__law_digit .nil pass0 (pa_cons (pv 0) (pa_cons pe_int pa_nil))) (fun _ _ => rfl)) pa_nil)))) pa_nil)))))))
      (pss_cons (ps_if (pt_cmpR op_gt (pe_call (ok__law_digit T) (hr.mono (by decide)) (by rfl) T.m__law_digit T.F__law_digit.kp T.B__law_digit .nil pass0 (pa_cons (pv 0) (pa_cons pe_int pa_nil))) pe_int (nomark _)) (pss_one (ps_ret (pe_callB call_sortO (by rfl) T.n_sorted boot_sorted (pa_cons (pv 1) pa_nil)))) pss_nil)
      (pss_one (ps_ret (pv 1)))))), ?_⟩
    refine ⟨Nat.zero_le _, fun so H1 n1 s1 h1 => ?_⟩
    have sob : so ≠ b := by rintro rfl; rw [hb.1] at n1; cases n1
    refine ⟨_, rfl, b, 7, z, rfl, s1 _ _ hb.1, hb.2, by decide, by decide, fun k z1 k0 k1 z10 => ?_⟩
    refine ⟨_, rfl, by omega, by omega, for_range (lo := 0) (n := k.toNat) (fun i σ H2 => (∃ v2 v3 v4, σ = [some (.ref b), some (.ref so), v2, v3, v4]) ∧ But b H H2 ∧ ∃ (qs : List Lf) (vs : List V) (z : Int), H2 so = some (.lst vs) ∧ Iss H2 (qs.map lf) vs ∧ Rest H2 b z ∧ qs.length = i ∧ ∀ p ∈ qs, OkL p) ⟨⟨none, none, none, rfl⟩, (But.of_same s1).trans But.upd, [], [], z1, by rw [upd_ne sob]; exact h1, iss_nil, ⟨upd_same, z10⟩, rfl, fun _ z => nomatch z⟩ ?_ ?_⟩
    · rintro i σ H2 hi ⟨⟨v2, v3, v4, rfl⟩, but2, qs, vs, z2, hso, hqs, hb2, ql, qok⟩
      have vl : vs.length = qs.length := by rw [hqs.length, List.length_map]
      refine ⟨_, rfl, b, 8, z2, rfl, hb2.1, hb2.2, by decide, by decide, fun y z3 y0 y1 z30 => ⟨_, _, rfl, rfl, ?_⟩⟩
      refine ⟨_, rfl, _, _, rfl, rfl, _, rfl, _, rfl, _, _, rfl, rfl, b, _, z3, rfl, upd_same, z30, by omega, by omega, fun x z4 x0 x1 z40 => ⟨_, _, rfl, rfl, ?_⟩⟩
      have hso2 : ∀ o o', upd (upd H2 b o) b o' so = some (.lst vs) := fun o o' => by rw [upd_ne sob, upd_ne sob]; exact hso
      refine ⟨_, rfl, .inl ⟨rfl, _, SqL.of (hso2 _ _)⟩, _, rfl, _, rfl, _, rfl, b, 60, z4, rfl, upd_same, z40, by decide, by decide, fun u z5 u0 u1 z50 => ⟨_, _, rfl, rfl, (by show 2 ≤ sizeLine; decide), fun q H5 nq s5 hq => ?_⟩⟩
      have qb : q ≠ b := by rintro rfl; rw [upd_same] at nq; cases nq
      refine ⟨_, rfl, b, 2, z5, rfl, s5 _ _ upd_same, z50, by decide, by decide, fun c z6 c0 c1 z60 => ⟨q, _, c, .int (if c = 0 then 1 else 1 + u), rfl, rfl, SqL.of (by rw [upd_ne qb]; exact hq), ?_, ?_⟩⟩
      · have : c = 0 ∨ c = 1 := by omega
        rcases this with e | e <;> subst e <;> rfl
      have w1 : 1 ≤ (if c = 0 then 1 else 1 + u) := by split <;> omega
      have w2 : (if c = 0 then 1 else 1 + u) ≤ 60 := by split <;> omega
      generalize (if c = 0 then 1 else 1 + u) = wt at w1 w2 ⊢
      have but5 : But b H2 (upd H5 b (.lst [.int z6])) := ((But.upd.trans (But.upd.trans But.upd)).trans (But.of_same s5)).trans But.upd
      have hso5 : upd H5 b (.lst [.int z6]) so = some (.lst vs) := but5 _ _ hso sob
      have hi5 : Iss (upd H5 b (.lst [.int z6])) (qs.map lf) vs := iss_lf (fun c xs e => but5 _ _ e (by rintro rfl; rw [hb2.1] at e; cases e)) hqs
      have hb5 : Rest (upd H5 b (.lst [.int z6])) b z6 := ⟨upd_same, z60⟩
      generalize upd H5 b (.lst [.int z6]) = H6 at but5 hso5 hi5 hb5 ⊢
      refine ⟨(by show 3 ≤ sizeLine; decide), fun t H7 nt s7 ht => ⟨so, vs, _, rfl, rfl, s7 _ _ hso5, small1000 (by omega), ⟨_, _, _, rfl⟩, fun c o e nc => ?_, qs ++ [(1 + y, 1 + y + 1 + x, wt)], _, z6, upd_same, ?_, ⟨by rw [upd_ne sob.symm]; exact s7 _ _ hb5.1, hb5.2⟩, by rw [List.length_append, ql]; rfl, fun p hp => ?_⟩⟩
      · rw [upd_ne (by rintro rfl; rw [n1] at e; cases e)]
        exact s7 _ _ (but5 _ _ (but2 _ _ e nc) nc)
      · refine iss_lf (TupS.upd (s7 _ _ hso5)) ?_
        rw [List.map_append]
        exact (hi5.mono s7).append (iss_cons (is_lf ht) iss_nil)
      · rcases List.mem_append.mp hp with hp | hp
        · exact qok p hp
        · rw [List.mem_singleton.mp hp]
          refine ⟨?_, ?_, ?_, w1, w2⟩
          · show 1 ≤ 1 + y; omega
          · show 1 + y < 1 + y + 1 + x; omega
          · show 1 + y + 1 + x ≤ 9; omega
    · rintro σ H2 ⟨⟨v2, v3, v4, rfl⟩, but2, qs, vs, z2, hso, hqs, hb2, ql, qok⟩
      refine ⟨_, rfl, b, 3, z2, rfl, hb2.1, hb2.2, by decide, by decide, fun y z3 y0 y1 z30 => ⟨_, _, rfl, rfl, _, rfl, iteD (fun _ => ?_) (fun _ => ?_)⟩⟩
      all_goals
        have hso3 : upd H2 b (.lst [.int z3]) so = some (.lst vs) := by rw [upd_ne sob]; exact hso
        have hi3 : Iss (upd H2 b (.lst [.int z3])) (qs.map lf) vs := iss_lf (fun c xs e => But.upd _ _ e (by rintro rfl; rw [hb2.1] at e; cases e)) hqs
      · refine ⟨_, rfl, .ref so, qs.map row3, 3, rfl, by rw [← lfs_rows]; exact is_l hso3 hi3, by decide, rows_len, by rw [List.length_map]; omega, fun yss q H' hp hasc nq s' hq => ?_⟩
        obtain ⟨rs, hperm, rfl⟩ := rows_back hp
        rw [← lfs_rows] at hq
        exact kk rs q H' ((but2.trans But.upd).trans (But.of_same s')) hq (by rw [hperm.length_eq]; omega) fun p hp => qok p (hperm.mem_iff.mp hp)
      · exact ⟨_, rfl, kk qs so _ (but2.trans But.upd) (is_l hso3 hi3) (by omega) qok⟩
theorem ok__law_spoiled : FnOk P w K mg base CX0 2 T.f__law_spoiled T.d__law_spoiled ["_law_text_here", "_law_rest"] (spSpo K) := by
  refine T.F__law_spoiled.ok sc__law_spoiled (fun vs H Q E h => ?_) (fun cdv A outer s H vs Q E hr h => ?_)
  · obtain ⟨_, _, _, _, rfl, _⟩ := h
    rfl
  · obtain ⟨t, b, z, n, rfl, ft, n90, hb, kk⟩ := h
    refine ⟨_, (pss_cons (ps_set (i := 2) sc__law_spoiled.nd rfl (by first | exact Or.inl rfl | exact Or.inr rfl) pe_str)
      (pss_cons (ps_set (i := 3) sc__law_spoiled.nd rfl (by first | exact Or.inl rfl | exact Or.inr rfl) (pe_call (ok__law_digit T) (hr.mono (by decide)) (by rfl) T.m__law_digit T.F__law_digit.kp T.B__law_digit .nil pass0 (pa_cons (pv 1) (pa_cons pe_int pa_nil))))
      (pss_cons (ps_set (i := 4) sc__law_spoiled.nd rfl (by first | exact Or.inl rfl | exact Or.inr rfl) (pe_call (ok__law_digit T) (hr.mono (by decide)) (by rfl) T.m__law_digit T.F__law_digit.kp T.B__law_digit .nil pass0 (pa_cons (pv 1) (pa_cons (pe_op op_add (pe_callB call_len_str (by rfl) T.n_len boot_len (pa_cons (pv 0) pa_nil)) pe_int) pa_nil))))
      (pss_cons (ps_set (i := 5) sc__law_spoiled.nd rfl (by first | exact Or.inl rfl | exact Or.inr rfl) (pe_ix ix_str (pv 2) (pe_call (ok__law_digit T) (hr.mono (by decide)) (by rfl) T.m__law_digit T.F__law_digit.kp T.B__law_digit .nil pass0 (pa_cons (pv 1) (pa_cons (pe_callB call_len_str (by rfl) T.n_len boot_len (pa_cons (pv 2) pa_nil)) pa_nil))) (fun _ _ => rfl)))
      (pss_cons (ps_if (pt_cmpR op_eq (pv 3) pe_int (nomark _)) (pss_one (ps_ret (pe_op op_add_str (pe_slice sl_str (pv 0) po_none (po_some (pv 4))) (pe_slice sl_str (pv 0) (po_some (pe_op op_add (pv 4) pe_int)) po_none)))) pss_nil)
      (pss_cons (ps_if (pt_cmpR op_eq (pv 3) pe_int (nomark _)) (pss_one (ps_ret (pe_op op_add_str (pe_op op_add_str (pe_slice sl_str (pv 0) po_none (po_some (pv 4))) (pv 5)) (pe_slice sl_str (pv 0) (po_some (pv 4)) po_none)))) pss_nil)
      (pss_cons (ps_if (pt_cmpR op_eq (pv 3) pe_int (nomark _)) (pss_one (ps_ret (pe_op op_add_str (pe_op op_add_str (pe_slice sl_str (pv 0) po_none (po_some (pv 4))) (pv 5)) (pe_slice sl_str (pv 0) (po_some (pe_op op_add (pv 4) pe_int)) po_none)))) pss_nil)
      (pss_cons (ps_if (pt_cmpR op_eq (pv 3) pe_int (nomark _)) (pss_one (ps_ret (pe_op op_add_str (pv 0) (pe_ix ix_list (pe_lstN (pa_cons pe_str (pa_cons pe_str (pa_cons pe_str (pa_cons pe_str (pa_cons pe_str (pa_cons pe_str pa_nil))))))) (pe_call (ok__law_digit T) (hr.mono (by decide)) (by rfl) T.m__law_digit T.F__law_digit.kp T.B__law_digit .nil pass0 (pa_cons (pv 1) (pa_cons pe_int pa_nil))) (fun _ _ => rfl))))) pss_nil)
      (pss_one (ps_ret (pe_op op_add_str (pe_ix ix_list (pe_lstN (pa_cons pe_str (pa_cons pe_str (pa_cons pe_str (pa_cons pe_str pa_nil))))) (pe_call (ok__law_digit T) (hr.mono (by decide)) (by rfl) T.m__law_digit T.F__law_digit.kp T.B__law_digit .nil pass0 (pa_cons (pv 1) (pa_cons pe_int pa_nil))) (fun _ _ => rfl)) (pv 0)))))))))))), ?_⟩
    have sz := size9
    have tl := ft.1
    refine ⟨_, rfl, b, 5, z, rfl, hb.1, hb.2, by decide, by decide, fun y z1 y0 y1 z10 => ?_⟩
    refine ⟨_, rfl, _, rfl, _, rfl, by omega, _, _, rfl, rfl, b, _, z1, rfl, upd_same, z10, by omega, by omega, fun a z2 a0 a1 z20 => ?_⟩
    refine ⟨_, rfl, _, rfl, _, rfl, _, rfl, sg_len.2, b, _, z2, rfl, upd_same, z20, sg_pos.1, sg_pos.2, fun c z3 c0 c1 z30 => ?_⟩
    obtain ⟨ch, hch, chl⟩ := sg_at c0 c1
    have fch : Fit 1 ⟨#[ch]⟩ := ⟨Nat.le_refl _, fun x hx => by simp at hx; omega⟩
    refine ⟨_, c, ch, rfl, rfl, sg_len.2, hch, ?_⟩
    have f1 : Fit a.toNat (Txt.slice t none (some a)) := fit_to ft a0 (by omega)
    have f2 : Fit (t.length - a.toNat) (Txt.slice t (some a) none) := fit_from ft a0
    have f3 : Fit (t.length - (a + 1).toNat) (Txt.slice t (some (a + 1)) none) := fit_from ft (by omega)
    have l1 := f1.1
    have l2 := f2.1
    have l3 := f3.1
    have lc : (⟨#[ch]⟩ : Str).length = 1 := rfl
    have but3 : But b H (upd (upd (upd H b (.lst [.int z1])) b (.lst [.int z2])) b (.lst [.int z3])) := But.upd.trans (But.upd.trans But.upd)
    have hb3 : Rest (upd (upd (upd H b (.lst [.int z1])) b (.lst [.int z2])) b (.lst [.int z3])) b z3 := ⟨upd_same, z30⟩
    generalize upd (upd (upd H b (.lst [.int z1])) b (.lst [.int z2])) b (.lst [.int z3]) = H3 at but3 hb3 ⊢
    refine ⟨_, rfl, rfl, _, rfl, iteE (fun _ => ?_) (fun _ => ?_)⟩
    · exact ⟨_, rfl, _, rfl, _, rfl, _, rfl, by omega, _, rfl, _, rfl, _, _, rfl, rfl, _, rfl, _, rfl, by omega, _, _, rfl, rfl, by omega, kk _ z3 H3 but3 ((f1.add f3).le (by omega)) hb3⟩
    refine ⟨_, rfl, rfl, _, rfl, iteE (fun _ => ?_) (fun _ => ?_)⟩
    · exact ⟨_, rfl, _, rfl, _, rfl, _, rfl, by omega, _, rfl, _, _, rfl, rfl, by rw [lc]; omega, _, rfl, _, rfl, _, rfl, _, rfl, by omega, _, _, rfl, rfl, by rw [Str.length_append, lc]; omega, kk _ z3 H3 but3 (((f1.add fch).add f2).le (by omega)) hb3⟩
    refine ⟨_, rfl, rfl, _, rfl, iteE (fun _ => ?_) (fun _ => ?_)⟩
    · exact ⟨_, rfl, _, rfl, _, rfl, _, rfl, by omega, _, rfl, _, _, rfl, rfl, by rw [lc]; omega, _, rfl, _, rfl, _, _, rfl, rfl, _, rfl, _, rfl, by omega, _, _, rfl, rfl, by rw [Str.length_append, lc]; omega, kk _ z3 H3 but3 (((f1.add fch).add f3).le (by omega)) hb3⟩
    refine ⟨_, rfl, rfl, _, rfl, iteE (fun _ => ?_) (fun _ => ?_)⟩
    · refine ⟨_, rfl, (by show 6 ≤ sizeLine; decide), fun q H4 nq s4 hq => ⟨_, rfl, b, 6, z3, rfl, s4 _ _ hb3.1, hb3.2, by decide, by decide, fun e z4 e0 e1 z40 => ?_⟩⟩
      have qb : q ≠ b := by rintro rfl; rw [hb3.1] at nq; cases nq
      have hq' : upd H4 b (.lst [.int z4]) q = some (.lst [.str (Str.ofString " none"), .str (Str.ofString " "), .str (Str.ofString ""), .str (Str.ofString "x1"), .str (Str.ofString "x60"), .str (Str.ofString "x61")]) := by rw [upd_ne qb]; exact hq
      obtain ⟨u, hu, fu⟩ := end_at e0 e1
      have lu := fu.1
      exact ⟨q, _, e, .str u, rfl, rfl, SqL.of hq', hu, _, _, rfl, rfl, by omega, kk _ z4 _ ((but3.trans (But.of_same s4)).trans But.upd) (ft.add fu) ⟨upd_same, z40⟩⟩
    · refine ⟨(by show 4 ≤ sizeLine; decide), fun q H4 nq s4 hq => ⟨_, rfl, b, 4, z3, rfl, s4 _ _ hb3.1, hb3.2, by decide, by decide, fun e z4 e0 e1 z40 => ?_⟩⟩
      have qb : q ≠ b := by rintro rfl; rw [hb3.1] at nq; cases nq
      have hq' : upd H4 b (.lst [.int z4]) q = some (.lst [.str (Str.ofString ""), .str (Str.ofString " "), .str (Str.ofString "none "), .str (Str.ofString "1-2")]) := by rw [upd_ne qb]; exact hq
      obtain ⟨u, hu, fu⟩ := beg_at e0 e1
      have lu := fu.1
      exact ⟨q, _, e, .str u, rfl, rfl, SqL.of hq', hu, _, rfl, _, _, rfl, rfl, by omega, kk _ z4 _ ((but3.trans (But.of_same s4)).trans But.upd) ((fu.add ft).le (by omega)) ⟨upd_same, z40⟩⟩
theorem ok_law : FnOk P w K mg base CX0 5 T.f_law T.d_law ["_law_script"] (sp_law K) := by
  refine T.F_law.ok sc_law (fun vs H Q E h => ?_) (fun cdv A outer s H vs Q E hr h => ?_)
  · obtain ⟨_, _, rfl, _⟩ := h
    rfl
  · obtain ⟨a, ns, rfl, hS, hl, kk⟩ := h
    refine ⟨_, (pss_cons (ps_set (i := 1) sc_law.nd rfl (by first | exact Or.inl rfl | exact Or.inr rfl) (pe_lstN (pa_cons (pe_call (ok__law_great T) (hr.mono (by decide)) (by rfl) T.m__law_great T.F__law_great.kp T.B__law_great .nil pass0 (pa_cons (pe_call (ok__law_cell_at T) (hr.mono (by decide)) (by rfl) T.m__law_cell_at T.F__law_cell_at.kp T.B__law_cell_at .nil pass0 (pa_cons (pv 0) (pa_cons pe_int pa_nil))) pa_nil)) pa_nil)))
      (pss_cons (ps_set (i := 2) sc_law.nd rfl (by first | exact Or.inl rfl | exact Or.inr rfl) (pe_call (ok__law_text T) (hr.mono (by decide)) (by rfl) T.m__law_text T.F__law_text.kp T.B__law_text .nil pass0 (pa_cons (pe_call (ok__law_lifts T) (hr.mono (by decide)) (by rfl) T.m__law_lifts T.F__law_lifts.kp T.B__law_lifts .nil pass0 (pa_cons (pv 1) pa_nil)) pa_nil)))
      (pss_cons (ps_set (i := 1) sc_law.nd rfl (by first | exact Or.inl rfl | exact Or.inr rfl) (pe_lstN (pa_cons (pe_call (ok__law_great T) (hr.mono (by decide)) (by rfl) T.m__law_great T.F__law_great.kp T.B__law_great .nil pass0 (pa_cons (pe_call (ok__law_cell_at T) (hr.mono (by decide)) (by rfl) T.m__law_cell_at T.F__law_cell_at.kp T.B__law_cell_at .nil pass0 (pa_cons (pv 0) (pa_cons pe_int pa_nil))) pa_nil)) pa_nil)))
      (pss_cons (ps_for PassesOwn.never rfl (pi_range1 (by rfl) T.n_range (pa_cons (pe_call (ok__law_digit T) (hr.mono (by decide)) (by rfl) T.m__law_digit T.F__law_digit.kp T.B__law_digit .nil pass0 (pa_cons (pv 1) (pa_cons pe_int pa_nil))) pa_nil)) (pg_name (i := 3) sc_law.nd rfl (by first | exact Or.inl rfl | exact Or.inr rfl)) (pss_one (ps_set (i := 2) sc_law.nd rfl (by first | exact Or.inl rfl | exact Or.inr rfl) (pe_call (ok__law_spoiled T) (hr.mono (by decide)) (by rfl) T.m__law_spoiled T.F__law_spoiled.kp T.B__law_spoiled .nil pass0 (pa_cons (pv 2) (pa_cons (pv 1) pa_nil))))))
      (pss_cons (ps_set (i := 4) sc_law.nd rfl (by first | exact Or.inl rfl | exact Or.inr rfl) (pe_call (ok__law_read T) (hr.mono (by decide)) (by rfl) T.m__law_read T.F__law_read.kp T.B__law_read .nil pass0 (pa_cons (pv 2) pa_nil)))
      (pss_cons (ps_if (pt_cmpR op_isN (pv 4) pe_non (nomark _)) (pss_one (ps_ret (pe_call (ok__law_refused T) (hr.mono (by decide)) (by rfl) T.m__law_refused T.F__law_refused.kp T.B__law_refused .nil pass0 (pa_cons (pv 2) pa_nil)))) pss_nil)
      (pss_one (ps_ret (pe_cmpR (op_eqS hr) (pe_call (ok_read_drawing T) (hr.mono (by decide)) (by rfl) T.m_read_drawing T.F_read_drawing.kp T.B_read_drawing .nil passE0 (pa_cons (pv 2) pa_nil)) (pv 4) (nomark _)))))))))), ?_⟩
    refine ⟨_, rfl, a, ns, 0, rfl, hS, by decide, fun c => ⟨c, rfl, fun z z0 => ⟨(by show 1 ≤ sizeLine; decide), fun b H1 n1 s1 h1 => ?_⟩⟩⟩
    refine ⟨_, rfl, b, z, rfl, ⟨h1, z0⟩, fun ps l H2 but2 hl2 pl pok => ?_⟩
    refine ⟨.ref l, ps, rfl, hl2, ⟨by omega, pok⟩, fun H3 s3 => ?_⟩
    have sH3 : Same H H3 := fun c o e => s3 _ _ (but2 _ _ (s1 _ _ e) (by rintro rfl; rw [n1] at e; cases e))
    have hS3 : SqL K H3 a (ns.map V.int) := sH3.seq hS
    refine ⟨_, rfl, a, ns, 1, rfl, hS3, by decide, fun c => ⟨c, rfl, fun z z0 => ⟨(by show 1 ≤ sizeLine; decide), fun b2 H4 n4 s4 h4 => ?_⟩⟩⟩
    refine ⟨_, rfl, b2, 3, z, rfl, h4, z0, by decide, by decide, fun k z1 k0 k1 z10 => ?_⟩
    refine ⟨_, rfl, by omega, by omega, for_range (lo := 0) (n := k.toNat) (fun i σ H5 => ∃ (t : Str) (z : Int), (∃ v3, σ = [some (.ref a), some (.ref b2), some (.str t), v3, none]) ∧ Fit (58 + 5 * i) t ∧ Rest H5 b2 z) ⟨textF ps, z1, ⟨none, rfl⟩, fit_text pl pok, upd_same, z10⟩ ?_ ?_⟩
    · rintro i σ H5 hi ⟨t, z2, ⟨v3, rfl⟩, ft, hb5⟩
      exact ⟨_, rfl, _, rfl, t, b2, z2, _, rfl, ft, by omega, hb5, fun u z' H' _ fu hr' => ⟨u, z', ⟨_, rfl⟩, fu, hr'⟩⟩
    · rintro σ H5 ⟨t, z2, ⟨v3, rfl⟩, ft, hb5⟩
      have ft : Fit 100 t := ft.le (by omega)
      refine ⟨_, rfl, t, rfl, ft, fun ps hps l H6 s6 hl6 => ?_, fun hno H6 s6 => ?_⟩
      · refine ⟨_, rfl, rfl, _, rfl, iteD (fun h => nomatch h) (fun _ => ?_)⟩
        refine ⟨_, rfl, t, rfl, ft, .inl ⟨ps, hps, fun r H7 s7 hr7 => ?_⟩⟩
        exact ⟨_, rfl, 2, true, eqD_lfs ps hr7 (hl6.mono s7), by decide, kk H7⟩
      · refine ⟨_, rfl, rfl, _, rfl, iteD (fun _ => ?_) (fun h => absurd rfl h)⟩
        exact ⟨_, rfl, t, rfl, ft, hno, fun H7 s7 => kk H7⟩
end
theorem us1 {α : Type} {Q : List α → Prop} (h : ∀ x0, Q [x0]) : ∀ us : List α, us.length = 1 → Q us
  := by
  intro us hl
  rcases us with _ | ⟨x0, us⟩
  · simp at hl
  rcases us with _ | ⟨y, us⟩
  · exact h x0
  · simp at hl
theorem us2 {α : Type} {Q : List α → Prop} (h : ∀ x0 x1, Q [x0, x1]) : ∀ us : List α, us.length = 2 → Q us
  := by
  intro us hl
  rcases us with _ | ⟨x0, us⟩
  · simp at hl
  rcases us with _ | ⟨x1, us⟩
  · simp at hl
  rcases us with _ | ⟨y, us⟩
  · exact h x0 x1
  · simp at hl
theorem all_mk {l : PySem.W.OpenLaw} {w : World} {K : PySem.W.Frag} {h : Heap} {mg : Str → Option Value} {fa : Addr} (X : K.In h) (G : h.Ns mainGlobals mg) (hfa : mg "law" = some (.ref fa))
    {f0 : Addr} {od0 an0 : Option Addr} {sl0 : Array (Option Value)} {oc0 kV0 dc0 pm0 cd0 ct0 : Value}
    (a0 : PySem.W.nsIn K mainGlobals "show_lift" = some (some (.ref f0))) (l0 : K.lookup f0 = some ⟨oc0, od0, .func (PySem.W.fnOf "show_lift" "show_lift" (defArgs s_show_lift) (defBody s_show_lift) (defScope s_show_lift) .none kV0 dc0 pm0 an0 cd0 ct0), sl0⟩) (c0 : PySem.W.codeIn K cd0 "show_lift" = true) (k0 : PySem.W.keepIn K (.ref f0) = true)
    {f1 : Addr} {od1 an1 : Option Addr} {sl1 : Array (Option Value)} {oc1 kV1 dc1 pm1 cd1 ct1 : Value}
    (a1 : PySem.W.nsIn K mainGlobals "read_from_nought" = some (some (.ref f1))) (l1 : K.lookup f1 = some ⟨oc1, od1, .func (PySem.W.fnOf "read_from_nought" "read_from_nought" (defArgs s_read_from_nought) (defBody s_read_from_nought) (defScope s_read_from_nought) .none kV1 dc1 pm1 an1 cd1 ct1), sl1⟩) (c1 : PySem.W.codeIn K cd1 "read_from_nought" = true) (k1 : PySem.W.keepIn K (.ref f1) = true)
    {f2 : Addr} {od2 an2 : Option Addr} {sl2 : Array (Option Value)} {oc2 kV2 dc2 pm2 cd2 ct2 : Value}
    (a2 : PySem.W.nsIn K mainGlobals "read_lift" = some (some (.ref f2))) (l2 : K.lookup f2 = some ⟨oc2, od2, .func (PySem.W.fnOf "read_lift" "read_lift" (defArgs s_read_lift) (defBody s_read_lift) (defScope s_read_lift) .none kV2 dc2 pm2 an2 cd2 ct2), sl2⟩) (c2 : PySem.W.codeIn K cd2 "read_lift" = true) (k2 : PySem.W.keepIn K (.ref f2) = true)
    {f3 : Addr} {od3 an3 : Option Addr} {sl3 : Array (Option Value)} {oc3 kV3 dc3 pm3 cd3 ct3 : Value}
    (a3 : PySem.W.nsIn K mainGlobals "read_drawing" = some (some (.ref f3))) (l3 : K.lookup f3 = some ⟨oc3, od3, .func (PySem.W.fnOf "read_drawing" "read_drawing" (defArgs s_read_drawing) (defBody s_read_drawing) (defScope s_read_drawing) .none kV3 dc3 pm3 an3 cd3 ct3), sl3⟩) (c3 : PySem.W.codeIn K cd3 "read_drawing" = true) (k3 : PySem.W.keepIn K (.ref f3) = true)
    {f4 : Addr} {od4 an4 : Option Addr} {sl4 : Array (Option Value)} {oc4 kV4 dc4 pm4 cd4 ct4 : Value}
    (a4 : PySem.W.nsIn K mainGlobals "_law_cell_at" = some (some (.ref f4))) (l4 : K.lookup f4 = some ⟨oc4, od4, .func (PySem.W.fnOf "_law_cell_at" "_law_cell_at" (defArgs s__law_cell_at) (defBody s__law_cell_at) (defScope s__law_cell_at) .none kV4 dc4 pm4 an4 cd4 ct4), sl4⟩) (c4 : PySem.W.codeIn K cd4 "_law_cell_at" = true) (k4 : PySem.W.keepIn K (.ref f4) = true)
    {f5 : Addr} {od5 an5 : Option Addr} {sl5 : Array (Option Value)} {oc5 kV5 dc5 pm5 cd5 ct5 : Value}
    (a5 : PySem.W.nsIn K mainGlobals "_law_great" = some (some (.ref f5))) (l5 : K.lookup f5 = some ⟨oc5, od5, .func (PySem.W.fnOf "_law_great" "_law_great" (defArgs s__law_great) (defBody s__law_great) (defScope s__law_great) .none kV5 dc5 pm5 an5 cd5 ct5), sl5⟩) (c5 : PySem.W.codeIn K cd5 "_law_great" = true) (k5 : PySem.W.keepIn K (.ref f5) = true)
    {f6 : Addr} {od6 an6 : Option Addr} {sl6 : Array (Option Value)} {oc6 kV6 dc6 pm6 cd6 ct6 : Value}
    (a6 : PySem.W.nsIn K mainGlobals "_law_digit" = some (some (.ref f6))) (l6 : K.lookup f6 = some ⟨oc6, od6, .func (PySem.W.fnOf "_law_digit" "_law_digit" (defArgs s__law_digit) (defBody s__law_digit) (defScope s__law_digit) .none kV6 dc6 pm6 an6 cd6 ct6), sl6⟩) (c6 : PySem.W.codeIn K cd6 "_law_digit" = true) (k6 : PySem.W.keepIn K (.ref f6) = true)
    {f7 : Addr} {od7 an7 : Option Addr} {sl7 : Array (Option Value)} {oc7 kV7 dc7 pm7 cd7 ct7 : Value}
    (a7 : PySem.W.nsIn K mainGlobals "_law_lifts" = some (some (.ref f7))) (l7 : K.lookup f7 = some ⟨oc7, od7, .func (PySem.W.fnOf "_law_lifts" "_law_lifts" (defArgs s__law_lifts) (defBody s__law_lifts) (defScope s__law_lifts) .none kV7 dc7 pm7 an7 cd7 ct7), sl7⟩) (c7 : PySem.W.codeIn K cd7 "_law_lifts" = true) (k7 : PySem.W.keepIn K (.ref f7) = true)
    {f8 : Addr} {od8 an8 : Option Addr} {sl8 : Array (Option Value)} {oc8 kV8 dc8 pm8 cd8 ct8 : Value}
    (a8 : PySem.W.nsIn K mainGlobals "_law_text" = some (some (.ref f8))) (l8 : K.lookup f8 = some ⟨oc8, od8, .func (PySem.W.fnOf "_law_text" "_law_text" (defArgs s__law_text) (defBody s__law_text) (defScope s__law_text) .none kV8 dc8 pm8 an8 cd8 ct8), sl8⟩) (c8 : PySem.W.codeIn K cd8 "_law_text" = true) (k8 : PySem.W.keepIn K (.ref f8) = true)
    {f9 : Addr} {od9 an9 : Option Addr} {sl9 : Array (Option Value)} {oc9 kV9 dc9 pm9 cd9 ct9 : Value}
    (a9 : PySem.W.nsIn K mainGlobals "_law_spoiled" = some (some (.ref f9))) (l9 : K.lookup f9 = some ⟨oc9, od9, .func (PySem.W.fnOf "_law_spoiled" "_law_spoiled" (defArgs s__law_spoiled) (defBody s__law_spoiled) (defScope s__law_spoiled) .none kV9 dc9 pm9 an9 cd9 ct9), sl9⟩) (c9 : PySem.W.codeIn K cd9 "_law_spoiled" = true) (k9 : PySem.W.keepIn K (.ref f9) = true)
    {f10 : Addr} {od10 an10 : Option Addr} {sl10 : Array (Option Value)} {oc10 kV10 dc10 pm10 cd10 ct10 : Value}
    (a10 : PySem.W.nsIn K mainGlobals "_law_lift" = some (some (.ref f10))) (l10 : K.lookup f10 = some ⟨oc10, od10, .func (PySem.W.fnOf "_law_lift" "_law_lift" (defArgs s__law_lift) (defBody s__law_lift) (defScope s__law_lift) .none kV10 dc10 pm10 an10 cd10 ct10), sl10⟩) (c10 : PySem.W.codeIn K cd10 "_law_lift" = true) (k10 : PySem.W.keepIn K (.ref f10) = true)
    {f11 : Addr} {od11 an11 : Option Addr} {sl11 : Array (Option Value)} {oc11 kV11 dc11 pm11 cd11 ct11 : Value}
    (a11 : PySem.W.nsIn K mainGlobals "_law_read" = some (some (.ref f11))) (l11 : K.lookup f11 = some ⟨oc11, od11, .func (PySem.W.fnOf "_law_read" "_law_read" (defArgs s__law_read) (defBody s__law_read) (defScope s__law_read) .none kV11 dc11 pm11 an11 cd11 ct11), sl11⟩) (c11 : PySem.W.codeIn K cd11 "_law_read" = true) (k11 : PySem.W.keepIn K (.ref f11) = true)
    {f12 : Addr} {od12 an12 : Option Addr} {sl12 : Array (Option Value)} {oc12 kV12 dc12 pm12 cd12 ct12 : Value}
    (a12 : PySem.W.nsIn K mainGlobals "_law_refused" = some (some (.ref f12))) (l12 : K.lookup f12 = some ⟨oc12, od12, .func (PySem.W.fnOf "_law_refused" "_law_refused" (defArgs s__law_refused) (defBody s__law_refused) (defScope s__law_refused) .none kV12 dc12 pm12 an12 cd12 ct12), sl12⟩) (c12 : PySem.W.codeIn K cd12 "_law_refused" = true) (k12 : PySem.W.keepIn K (.ref f12) = true)
    {f13 : Addr} {od13 an13 : Option Addr} {sl13 : Array (Option Value)} {oc13 kV13 dc13 pm13 cd13 ct13 : Value}
    (a13 : PySem.W.nsIn K mainGlobals "law" = some (some (.ref f13))) (l13 : K.lookup f13 = some ⟨oc13, od13, .func (PySem.W.fnOf "law" "law" (defArgs s_law) (defBody s_law) (defScope s_law) .none kV13 dc13 pm13 an13 cd13 ct13), sl13⟩) (c13 : PySem.W.codeIn K cd13 "law" = true) (k13 : PySem.W.keepIn K (.ref f13) = true)
    (z0 : PySem.W.nsIn K mainGlobals "int" = some none)
    (z1 : PySem.W.nsIn K mainGlobals "all" = some none)
    (z2 : PySem.W.nsIn K mainGlobals "len" = some none)
    (z3 : PySem.W.nsIn K mainGlobals "sorted" = some none)
    (z4 : PySem.W.nsIn K mainGlobals "range" = some none)
    (z5 : PySem.W.nsIn K mainGlobals "str" = some none)
    (z6 : PySem.W.nsIn K mainGlobals "isinstance" = some none)
    (z7 : PySem.W.nsIn K mainGlobals "ValueError" = some none)
    {K_FIGURES : Tok} (ms_FIGURES : PySem.W.nsIn K mainGlobals "FIGURES" = some (some (.str (Str.ofString "0123456789") K_FIGURES)))
    {C_NoText : Addr} (ca_NoText : PySem.W.nsIn K mainGlobals "NoText" = some (some (.ref C_NoText)))
    {C_CurveError : Addr} (ca_CurveError : PySem.W.nsIn K mainGlobals "CurveError" = some (some (.ref C_CurveError)))
    {C_NoBound : Addr} (ca_NoBound : PySem.W.nsIn K mainGlobals "NoBound" = some (some (.ref C_NoBound)))
    {C_NoDrawing : Addr} (ca_NoDrawing : PySem.W.nsIn K mainGlobals "NoDrawing" = some (some (.ref C_NoDrawing)))
    {C_NoEnds : Addr} (ca_NoEnds : PySem.W.nsIn K mainGlobals "NoEnds" = some (some (.ref C_NoEnds)))
    {C_NoNumber : Addr} (ca_NoNumber : PySem.W.nsIn K mainGlobals "NoNumber" = some (some (.ref C_NoNumber)))
    (cx_NoText : PySem.W.excIn K C_NoText bmV "ValueError.__new__" = true)
    (xc_NoText_cl : (PySem.W.clsIn K C_NoText).isSome = true)
    (xc_NoText_ga : PySem.W.findIn K (.ref C_NoText) "__getattribute__" = some (some (.builtin "BaseException.__getattribute__")))
    (xc_NoText_gt : PySem.W.findIn K (.ref C_NoText) "__getattr__" = some none)
    (xc_NoText_ca : PySem.W.findIn K (.ref C_NoText) "__class__" = some (some (.builtin "object.__class__")))
    (xc_NoText_gn : PySem.W.specialIn K (.builtin "object.__class__") "__get__" = some (some (.builtin "getset_descriptor.__get__")))
    (xc_NoText_tk : PySem.W.takesIn K (.builtin "object.__class__") = some true)
    (xc_NoText_ob : PySem.W.mroIn K C_NoText (.type "object") = some true)
    (xc_NoText_be : PySem.W.mroIn K C_NoText (.type "BaseException") = some true)
    (ce_NoText_CurveError : PySem.W.exmOne K (.ref C_NoText) (.ref C_CurveError) = some true)
    (ck_NoText_NoText : PySem.W.kitOne K (.ref C_NoText) (.ref C_NoText) = some true)
    (ck_NoText_ValueError : PySem.W.kitOne K (.ref C_NoText) (.type "ValueError") = some true)
    (cs_NoText_0 : PySem.W.kitAny K (.ref C_NoText) [(.ref C_NoBound), (.ref C_NoDrawing), (.ref C_NoEnds), (.ref C_NoNumber)] = some false)
    : ∃ fd : FuncData, (∀ (s : Shared) (v : Value), BindsTo s fd ⟨[v], []⟩ [("_law_script", v)]) ∧ ∀ base : Heap, K.In base → base.Ns mainGlobals mg → FnOk l.prog w K mg base CX0 5 fa fd ["_law_script"] (sp_law K) := by
  have e := hfa.symm.trans (PySem.W.mg_of X G a13)
  cases e
  have F0 := fun_mk (st := s_show_lift) l0 c0 k0
  have B0 := F0.binds (ps := ["lift"]) fun _ _ _ _ _ _ us hl => us1 (Q := fun us => bindArgs _ ⟨us, []⟩ = pure (List.zip _ us)) (fun _ => rfl) us hl
  have F1 := fun_mk (st := s_read_from_nought) l1 c1 k1
  have B1 := F1.binds (ps := ["word", "most"]) fun _ _ _ _ _ _ us hl => us2 (Q := fun us => bindArgs _ ⟨us, []⟩ = pure (List.zip _ us)) (fun _ _ => rfl) us hl
  have F2 := fun_mk (st := s_read_lift) l2 c2 k2
  have B2 := F2.binds (ps := ["word"]) fun _ _ _ _ _ _ us hl => us1 (Q := fun us => bindArgs _ ⟨us, []⟩ = pure (List.zip _ us)) (fun _ => rfl) us hl
  have F3 := fun_mk (st := s_read_drawing) l3 c3 k3
  have B3 := F3.binds (ps := ["text"]) fun _ _ _ _ _ _ us hl => us1 (Q := fun us => bindArgs _ ⟨us, []⟩ = pure (List.zip _ us)) (fun _ => rfl) us hl
  have F4 := fun_mk (st := s__law_cell_at) l4 c4 k4
  have B4 := F4.binds (ps := ["_law_script", "_law_k"]) fun _ _ _ _ _ _ us hl => us2 (Q := fun us => bindArgs _ ⟨us, []⟩ = pure (List.zip _ us)) (fun _ _ => rfl) us hl
  have F5 := fun_mk (st := s__law_great) l5 c5 k5
  have B5 := F5.binds (ps := ["_law_cell"]) fun _ _ _ _ _ _ us hl => us1 (Q := fun us => bindArgs _ ⟨us, []⟩ = pure (List.zip _ us)) (fun _ => rfl) us hl
  have F6 := fun_mk (st := s__law_digit) l6 c6 k6
  have B6 := F6.binds (ps := ["_law_rest", "_law_m"]) fun _ _ _ _ _ _ us hl => us2 (Q := fun us => bindArgs _ ⟨us, []⟩ = pure (List.zip _ us)) (fun _ _ => rfl) us hl
  have F7 := fun_mk (st := s__law_lifts) l7 c7 k7
  have B7 := F7.binds (ps := ["_law_rest"]) fun _ _ _ _ _ _ us hl => us1 (Q := fun us => bindArgs _ ⟨us, []⟩ = pure (List.zip _ us)) (fun _ => rfl) us hl
  have F8 := fun_mk (st := s__law_text) l8 c8 k8
  have B8 := F8.binds (ps := ["_law_lifts_here"]) fun _ _ _ _ _ _ us hl => us1 (Q := fun us => bindArgs _ ⟨us, []⟩ = pure (List.zip _ us)) (fun _ => rfl) us hl
  have F9 := fun_mk (st := s__law_spoiled) l9 c9 k9
  have B9 := F9.binds (ps := ["_law_text_here", "_law_rest"]) fun _ _ _ _ _ _ us hl => us2 (Q := fun us => bindArgs _ ⟨us, []⟩ = pure (List.zip _ us)) (fun _ _ => rfl) us hl
  have F10 := fun_mk (st := s__law_lift) l10 c10 k10
  have B10 := F10.binds (ps := ["_law_word"]) fun _ _ _ _ _ _ us hl => us1 (Q := fun us => bindArgs _ ⟨us, []⟩ = pure (List.zip _ us)) (fun _ => rfl) us hl
  have F11 := fun_mk (st := s__law_read) l11 c11 k11
  have B11 := F11.binds (ps := ["_law_text_here"]) fun _ _ _ _ _ _ us hl => us1 (Q := fun us => bindArgs _ ⟨us, []⟩ = pure (List.zip _ us)) (fun _ => rfl) us hl
  have F12 := fun_mk (st := s__law_refused) l12 c12 k12
  have B12 := F12.binds (ps := ["_law_text_here"]) fun _ _ _ _ _ _ us hl => us1 (Q := fun us => bindArgs _ ⟨us, []⟩ = pure (List.zip _ us)) (fun _ => rfl) us hl
  have F13 := fun_mk (st := s_law) l13 c13 k13
  have B13 := F13.binds (ps := ["_law_script"]) fun _ _ _ _ _ _ us hl => us1 (Q := fun us => bindArgs _ ⟨us, []⟩ = pure (List.zip _ us)) (fun _ => rfl) us hl
  let T : Fns K mg := { f_show_lift := f0, d_show_lift := _, F_show_lift := F0, B_show_lift := B0, m_show_lift := PySem.W.mg_of X G a0, f_read_from_nought := f1, d_read_from_nought := _, F_read_from_nought := F1, B_read_from_nought := B1, m_read_from_nought := PySem.W.mg_of X G a1, f_read_lift := f2, d_read_lift := _, F_read_lift := F2, B_read_lift := B2, m_read_lift := PySem.W.mg_of X G a2, f_read_drawing := f3, d_read_drawing := _, F_read_drawing := F3, B_read_drawing := B3, m_read_drawing := PySem.W.mg_of X G a3, f__law_cell_at := f4, d__law_cell_at := _, F__law_cell_at := F4, B__law_cell_at := B4, m__law_cell_at := PySem.W.mg_of X G a4, f__law_great := f5, d__law_great := _, F__law_great := F5, B__law_great := B5, m__law_great := PySem.W.mg_of X G a5, f__law_digit := f6, d__law_digit := _, F__law_digit := F6, B__law_digit := B6, m__law_digit := PySem.W.mg_of X G a6, f__law_lifts := f7, d__law_lifts := _, F__law_lifts := F7, B__law_lifts := B7, m__law_lifts := PySem.W.mg_of X G a7, f__law_text := f8, d__law_text := _, F__law_text := F8, B__law_text := B8, m__law_text := PySem.W.mg_of X G a8, f__law_spoiled := f9, d__law_spoiled := _, F__law_spoiled := F9, B__law_spoiled := B9, m__law_spoiled := PySem.W.mg_of X G a9, f__law_lift := f10, d__law_lift := _, F__law_lift := F10, B__law_lift := B10, m__law_lift := PySem.W.mg_of X G a10, f__law_read := f11, d__law_read := _, F__law_read := F11, B__law_read := B11, m__law_read := PySem.W.mg_of X G a11, f__law_refused := f12, d__law_refused := _, F__law_refused := F12, B__law_refused := B12, m__law_refused := PySem.W.mg_of X G a12, f_law := fa, d_law := _, F_law := F13, B_law := B13, m_law := PySem.W.mg_of X G a13, n_int := PySem.W.mg_none_of X G z0, n_all := PySem.W.mg_none_of X G z1, n_len := PySem.W.mg_none_of X G z2, n_sorted := PySem.W.mg_none_of X G z3, n_range := PySem.W.mg_none_of X G z4, n_str := PySem.W.mg_none_of X G z5, n_isinstance := PySem.W.mg_none_of X G z6, n_ValueError := PySem.W.mg_none_of X G z7, k_FIGURES := K_FIGURES, m_FIGURES := PySem.W.mg_of X G ms_FIGURES, c_NoText := C_NoText, m_NoText := PySem.W.mg_of X G ca_NoText, c_CurveError := C_CurveError, m_CurveError := PySem.W.mg_of X G ca_CurveError, c_NoBound := C_NoBound, m_NoBound := PySem.W.mg_of X G ca_NoBound, c_NoDrawing := C_NoDrawing, m_NoDrawing := PySem.W.mg_of X G ca_NoDrawing, c_NoEnds := C_NoEnds, m_NoEnds := PySem.W.mg_of X G ca_NoEnds, c_NoNumber := C_NoNumber, m_NoNumber := PySem.W.mg_of X G ca_NoNumber, x_NoText := cx_NoText, X_NoText := ⟨xc_NoText_cl, xc_NoText_ga, xc_NoText_gt, xc_NoText_ca, xc_NoText_gn, xc_NoText_tk, xc_NoText_ob, xc_NoText_be⟩, e_NoText_CurveError := ce_NoText_CurveError, k_NoText_NoText := ck_NoText_NoText, k_NoText_ValueError := ck_NoText_ValueError, ks_NoText_0 := cs_NoText_0 }
  exact ⟨PySem.W.fnOf "law" "law" (defArgs s_law) (defBody s_law) (defScope s_law) .none kV13 dc13 pm13 an13 cd13 ct13, fun s v => .of_eq rfl, fun base _ _ => ok_law T⟩
theorem walk {l : PySem.W.OpenLaw} {q : Program} {loose : List Str} {XP : (Str → Option Value) → Heap → Prop} {YP : World → Heap → Prop} {d : DefRec} {K : Params → PySem.W.Frag} (hn : l.most = some 63) (hdf : d.params.defaults = [])
    (hY : ∀ (w : World) (h : Heap), YP w h → (K w.params).In h)
    (F : ∀ (w : World) (mg : Str → Option Value) (fa : Addr) (h : Heap), (K w.params).In h → h.Ns mainGlobals mg → mg d.name = some (.ref fa) →
      ∃ fd : FuncData, (∀ (s : Shared) (u : Value), BindsTo s fd ⟨[u], []⟩ [("_law_script", u)]) ∧ ∀ base : Heap, (K w.params).In base → base.Ns mainGlobals mg → FnOk l.prog w (K w.params) mg base CX0 5 fa fd ["_law_script"] (sp_law (K w.params))) :
    PySem.W.WalkO q loose XP YP l.row.toRowW d [] (fun f vs => PySem.call f vs) :=
  L2.walk_of (n := 63) (k := 5) (x := "_law_script") (CX := fun _ => CX0) (sp := fun w => sp_law (K w.params)) hn (by decide) hdf ⟨rfl, by decide, by decide⟩ hY F (fun _ _ a ns hl _ hS => ⟨a, ns, rfl, hS, hl, fun _ => rfl⟩) fun _ _ _ _ _ z => z
end Mine
open PySem PySem.W PyProof.Rows
namespace PySem.W.Fast
theorem tw8590278973385699576 : True := trivial
theorem tw1839968551609227216 : True := trivial
theorem tw178953549671122731 : True := trivial
theorem tw5788573610890346310 : True := trivial
theorem tw15326890821894865088 : True := trivial
theorem tw18367720742069088650 : True := trivial
theorem tw6819663771985960188 : True := trivial
theorem tw12125324899572965755 : True := trivial
theorem tw1830371776147722676 : True := trivial
theorem tw14189109784227189820 : True := trivial
theorem tw6146292267732749176 : True := trivial
theorem tw10757266071802165160 : True := trivial
theorem tw14011169717044591375 : True := trivial
theorem tw17991789994902317244 : True := trivial
theorem tw16852352878327103684 : True := trivial
theorem tw15393115549373615199 : True := trivial
theorem tw2433630929911013659 : True := trivial
theorem tw14696109819204528881 : True := trivial
theorem tw4025492616476990538 : True := trivial
theorem tw8322580709776203955 : True := trivial
theorem tw10308819068380454388 : True := trivial
theorem tw1286178506121488735 : True := trivial
theorem tw11421168322098312839 : True := trivial
theorem tw17342432121000802353 : True := trivial
theorem tw2595837826591289678 : True := trivial
theorem tw8151036137282247954 : True := trivial
theorem tw8081329853094517609 : True := trivial
theorem tw142412368345223610 : True := trivial
theorem tw13011690508655878034 : True := trivial
theorem tw13088817303168647182 : True := trivial
theorem tw9596421572563167571 : True := trivial
theorem tw17730998708350082829 : True := trivial
theorem tw11680815948453787935 : True := trivial
theorem tw9677721583968660926 : True := trivial
theorem tw8263289008829188212 : True := trivial
theorem tw6189866481918427105 : True := trivial
theorem tw5318293769745931901 : True := trivial
theorem tw5478014397689972117 : True := trivial
theorem tw1169602254970532519 : True := trivial
theorem tw7327148387753667115 : True := trivial
theorem tw4580290987897988842 : True := trivial
theorem tw14608960057280669821 : True := trivial
theorem tw7208477091261928339 : True := trivial
theorem tw3410691832999936751 : True := trivial
theorem tw5568916228903233788 : True := trivial
theorem tw4240248247641825875 : True := trivial
theorem tw15620169439210390588 : True := trivial
theorem tw15087678552330478825 : True := trivial
theorem tw12785885406704785264 : True := trivial
theorem tw4401166935836750941 : True := trivial
theorem tw15266685028271221097 : True := trivial
theorem tw15586548484726999332 : True := trivial
theorem tw2584287766732238350 : True := trivial
theorem tw9668325691636697731 : True := trivial
theorem tw4938645538237075717 : True := trivial
theorem tw14837302250522002535 : True := trivial
theorem tw12687988117403594841 : True := trivial
theorem tw15821387150612238307 : True := trivial
theorem tw9586720373750390434 : True := trivial
theorem tw15512919889784482189 : True := trivial
theorem tw18440702143925305822 : True := trivial
theorem tw5349015091519905646 : True := trivial
theorem tw9073072306112175833 : True := trivial
theorem tw15591638938301555642 : True := trivial
theorem tw3697922602285543076 : True := trivial
theorem tw10195772096140982701 : True := trivial
theorem tw1007285552176185371 : True := trivial
theorem tw6533553704347085905 : True := trivial
theorem tw9470078273488926685 : True := trivial
theorem tw10558726013919979737 : True := trivial
theorem tw8779926905677223660 : True := trivial
theorem tw15396434538550713654 : True := trivial
theorem tw13517807173385425787 : True := trivial
theorem tw10770895701717904873 : True := trivial
theorem tw374308065357682850 : True := trivial
theorem tw11436323049536211199 : True := trivial
theorem tw3467331672389907898 : True := trivial
theorem tw11009096544247230143 : True := trivial
theorem tw5172571432852584566 : True := trivial
theorem tw16062794029137570279 : True := trivial
theorem tw6730237679785847080 : True := trivial
theorem tw13922522459336436268 : True := trivial
theorem tw9320792805063209132 : True := trivial
theorem tw16271898408337202820 : True := trivial
theorem tw5127835955681888127 : True := trivial
theorem tw1784966477075832841 : True := trivial
theorem tw13671463269582428234 : True := trivial
theorem tw818921994762011666 : True := trivial
theorem tw8246929316674533137 : True := trivial
theorem tw5795862584291827936 : True := trivial
theorem tw14137382332368408281 : True := trivial
theorem tw15190445181960593691 : True := trivial
theorem tw7594702380503566893 : True := trivial
theorem tw11014249107089047781 : True := trivial
theorem tw12975239147431138870 : True := trivial
theorem tw9091751328129970557 : True := trivial
theorem tw4077313932344165152 : True := trivial
theorem tw18253466383777581594 : True := trivial
theorem tw8032402778316031184 : True := trivial
theorem tw13788239326209445273 : True := trivial
theorem tw905652480690969878 : True := trivial
theorem tw12631480908626549956 : True := trivial
theorem tw13183620845080172333 : True := trivial
theorem tw14058222644832672697 : True := trivial
theorem tw3780879357063856967 : True := trivial
theorem tw3731696029505123071 : True := trivial
theorem tw16953360101329080297 : True := trivial
theorem tw5664375563999222005 : True := trivial
theorem tw8409541297963147466 : True := trivial
theorem tw2256781896361055764 : True := trivial
theorem tw14488221613334392307 : True := trivial
theorem tw3737984124313184402 : True := trivial
theorem tw17098536536986027548 : True := trivial
theorem tw17138875716588011222 : True := trivial
theorem tw8566102438893367239 : True := trivial
theorem tw10885253250254772364 : True := trivial
theorem tw1493729109745997626 : True := trivial
theorem tw9052679724684692193 : True := trivial
theorem tw6761180692826171514 : True := trivial
theorem tw5226457282756204454 : True := trivial
theorem tw11175108459760064313 : True := trivial
theorem tw16459899586643980747 : True := trivial
theorem tw8489656172408980769 : True := trivial
theorem tw4273277310344877849 : True := trivial
theorem tw12982605266305700556 : True := trivial
theorem tw9922403841585964559 : True := trivial
theorem tw12788683924501355610 : True := trivial
theorem tw18041259402809223476 : True := trivial
theorem tw7297553181962628785 : True := trivial
theorem tw16860250406191042365 : True := trivial
theorem tw5152166029320170806 : True := trivial
theorem tw3492487676702568514 : True := trivial
theorem tw7628910584773611495 : True := trivial
theorem tw8319605867815247980 : True := trivial
theorem tw17213869750772641270 : True := trivial
theorem tw16224779861256020697 : True := trivial
theorem tw11741679306957865899 : True := trivial
theorem tw556618838186634026 : True := trivial
theorem tw612415452687081098 : True := trivial
theorem tw11988968628109935022 : True := trivial
theorem tw13560854058089712291 : True := trivial
theorem tw5762988237089289001 : True := trivial
theorem tw10829680260910099650 : True := trivial
theorem tw377426455931826356 : True := trivial
theorem tw13286050553965937823 : True := trivial
theorem tw4764837729640629201 : True := trivial
theorem tw10668518588484741434 : True := trivial
theorem tw7465955006783255167 : True := trivial
theorem tw1299712622620281717 : True := trivial
theorem tw11390253322065883983 : True := trivial
theorem tw15125029060414140535 : True := trivial
theorem tw7778187545163286354 : True := trivial
theorem tw17764228929651515718 : True := trivial
theorem tw4203334074615173919 : True := trivial
theorem tw17186763438327475168 : True := trivial
theorem tw11627370732302381324 : True := trivial
theorem tw7582316995970457878 : True := trivial
theorem tw9799536062773026318 : True := trivial
theorem tw1361240751021912844 : True := trivial
theorem tw6228699705585106549 : True := trivial
theorem tw11807395218968018810 : True := trivial
theorem tw530201013158583013 : True := trivial
theorem tw18423668425937294613 : True := trivial
theorem tw13119817558582219523 : True := trivial
theorem tw15230985867190584993 : True := trivial
theorem tw11039301737029461766 : True := trivial
theorem tw4432447988015832000 : True := trivial
theorem tw3761410376419838432 : True := trivial
theorem tw14682102219919745013 : True := trivial
theorem tw12616215909064166142 : True := trivial
theorem tw14719376043166887736 : True := trivial
theorem tw9658208095506022492 : True := trivial
theorem tw404623185761054191 : True := trivial
theorem tw4889483502077116544 : True := trivial
theorem tw16058195135502557456 : True := trivial
theorem tw7922104481193731512 : True := trivial
theorem tw13497318202543718730 : True := trivial
theorem tw17413926037294480640 : True := trivial
theorem tw3099193878260357093 : True := trivial
theorem tw15255688769378749223 : True := trivial
theorem tw10093547857480490372 : True := trivial
theorem tw6370193026526184625 : True := trivial
theorem tw12267422885218622010 : True := trivial
theorem tw11844581801874962912 : True := trivial
end PySem.W.Fast
set_option maxRecDepth 100000 in
set_option maxHeartbeats 0 in
theorem PySem.Challenge.cw_floorcurves_k81_no_drawing_text_holds : PySem.Challenge.rw_floorcurves_k81_no_drawing_text.Holds := by
  w_on; o_law; k_head; (case hw => w_witness2)
  k_fill
  refine Mine.walk (l := PySem.Challenge.rw_floorcurves_k81_no_drawing_text) rfl rfl (fun w h Y => PySem.W.kIn_of Y) ?F
  case F =>
    intro w mg fa h KX G hmg
    refine' Mine.all_mk KX G hmg ?a0 ?l0 ?c0 ?k0 ?a1 ?l1 ?c1 ?k1 ?a2 ?l2 ?c2 ?k2 ?a3 ?l3 ?c3 ?k3 ?a4 ?l4 ?c4 ?k4 ?a5 ?l5 ?c5 ?k5 ?a6 ?l6 ?c6 ?k6 ?a7 ?l7 ?c7 ?k7 ?a8 ?l8 ?c8 ?k8 ?a9 ?l9 ?c9 ?k9 ?a10 ?l10 ?c10 ?k10 ?a11 ?l11 ?c11 ?k11 ?a12 ?l12 ?c12 ?k12 ?a13 ?l13 ?c13 ?k13 ?z0 ?z1 ?z2 ?z3 ?z4 ?z5 ?z6 ?z7 ?ms_FIGURES ?ca_NoText ?ca_CurveError ?ca_NoBound ?ca_NoDrawing ?ca_NoEnds ?ca_NoNumber ?cx_NoText ?xc_NoText_cl ?xc_NoText_ga ?xc_NoText_gt ?xc_NoText_ca ?xc_NoText_gn ?xc_NoText_tk ?xc_NoText_ob ?xc_NoText_be ?ce_NoText_CurveError ?ck_NoText_NoText ?ck_NoText_ValueError ?cs_NoText_0
    (case a0 => k_is)
    (case l0 => k_is)
    (case c0 => k_is)
    (case k0 => k_is)
    (case a1 => k_is)
    (case l1 => k_is)
    (case c1 => k_is)
    (case k1 => k_is)
    (case a2 => k_is)
    (case l2 => k_is)
    (case c2 => k_is)
    (case k2 => k_is)
    (case a3 => k_is)
    (case l3 => k_is)
    (case c3 => k_is)
    (case k3 => k_is)
    (case a4 => k_is)
    (case l4 => k_is)
    (case c4 => k_is)
    (case k4 => k_is)
    (case a5 => k_is)
    (case l5 => k_is)
    (case c5 => k_is)
    (case k5 => k_is)
    (case a6 => k_is)
    (case l6 => k_is)
    (case c6 => k_is)
    (case k6 => k_is)
    (case a7 => k_is)
    (case l7 => k_is)
    (case c7 => k_is)
    (case k7 => k_is)
    (case a8 => k_is)
    (case l8 => k_is)
    (case c8 => k_is)
    (case k8 => k_is)
    (case a9 => k_is)
    (case l9 => k_is)
    (case c9 => k_is)
    (case k9 => k_is)
    (case a10 => k_is)
    (case l10 => k_is)
    (case c10 => k_is)
    (case k10 => k_is)
    (case a11 => k_is)
    (case l11 => k_is)
    (case c11 => k_is)
    (case k11 => k_is)
    (case a12 => k_is)
    (case l12 => k_is)
    (case c12 => k_is)
    (case k12 => k_is)
    (case a13 => k_is)
    (case l13 => k_is)
    (case c13 => k_is)
    (case k13 => k_is)
    (case z0 => k_is)
    (case z1 => k_is)
    (case z2 => k_is)
    (case z3 => k_is)
    (case z4 => k_is)
    (case z5 => k_is)
    (case z6 => k_is)
    (case z7 => k_is)
    (case ms_FIGURES => k_is)
    (case ca_NoText => first | k_is | kit_is | kts_exm | kernel_rfl)
    (case ca_CurveError => first | k_is | kit_is | kts_exm | kernel_rfl)
    (case ca_NoBound => first | k_is | kit_is | kts_exm | kernel_rfl)
    (case ca_NoDrawing => first | k_is | kit_is | kts_exm | kernel_rfl)
    (case ca_NoEnds => first | k_is | kit_is | kts_exm | kernel_rfl)
    (case ca_NoNumber => first | k_is | kit_is | kts_exm | kernel_rfl)
    (case cx_NoText => first | k_is | kit_is | kts_exm | kernel_rfl)
    (case xc_NoText_cl => first | k_is | kit_is | kts_exm | kernel_rfl)
    (case xc_NoText_ga => first | k_is | kit_is | kts_exm | kernel_rfl)
    (case xc_NoText_gt => first | k_is | kit_is | kts_exm | kernel_rfl)
    (case xc_NoText_ca => first | k_is | kit_is | kts_exm | kernel_rfl)
    (case xc_NoText_gn => first | k_is | kit_is | kts_exm | kernel_rfl)
    (case xc_NoText_tk => first | k_is | kit_is | kts_exm | kernel_rfl)
    (case xc_NoText_ob => first | k_is | kit_is | kts_exm | kernel_rfl)
    (case xc_NoText_be => first | k_is | kit_is | kts_exm | kernel_rfl)
    (case ce_NoText_CurveError => first | k_is | kit_is | kts_exm | kernel_rfl)
    (case ck_NoText_NoText => first | k_is | kit_is | kts_exm | kernel_rfl)
    (case ck_NoText_ValueError => first | k_is | kit_is | kts_exm | kernel_rfl)
    (case cs_NoText_0 => first | k_is | kit_is | kts_exm | kernel_rfl)
#print axioms PySem.Challenge.cw_floorcurves_k81_no_drawing_text_holds
