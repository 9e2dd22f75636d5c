import PyProof.Rows.All
import Wide.All
import OpenK.AllK
import Wide.FinOn
import Lean
import PyProof.EqAt
import PyProof.EqKinds
import PyProof.TupleCall
import KE.BitLaws
import PySem.Challenge.RW_lampforge_k26_boxes_on_a_bench
set_option Elab.async false
set_option linter.all false
set_option maxRecDepth 100000
/-! THE HAND LAYER, for ints, bools, texts, own classes, LISTS and tuples (index, slices, in, append, pop ..), calls, loops. Paste it whole ahead of your own text; what your proof does not reach may be deleted. -/
namespace L2
open PySem PySem.Spec PyProof.Rows

/-- a key: an int or a str -/
abbrev Key := Sum Int Str
def keyIs : Key → Value → Bool
  | .inl k, v => Value.isInt k v
  | .inr x, v => Value.isStrOf x v
def keyH (w : World) : Key → Int
  | .inl k => hashInt k
  | .inr x => hashStr w x
theorem keyIs_shape : ∀ {k : Key} {v : Value}, keyIs k v = true → (∃ i t, k = Sum.inl i ∧ v = Value.int i t) ∨ (∃ x t, k = Sum.inr x ∧ v = Value.str x t)
  | .inl i, v, h => by
    obtain ⟨t, e⟩ := Value.isInt_shape (k := i) (v := v) h
    exact .inl ⟨i, t, rfl, e⟩
  | .inr x, v, h => by
    obtain ⟨t, e⟩ := Value.isStrOf_shape (x := x) (v := v) h
    exact .inr ⟨x, t, rfl, e⟩
theorem keyIs_int (i : Int) (t : Tok) : keyIs (.inl i) (.int i t) = true := by simp [keyIs, Value.isInt]
theorem keyIs_str (x : Str) (t : Tok) : keyIs (.inr x) (.str x t) = true := by simp [keyIs, Value.isStrOf]
theorem key_ll (a b : Int) : decide ((Sum.inl a : Key) = Sum.inl b) = (a == b) := by
  by_cases e : a = b
  · subst e; simp
  · have h : ¬ (Sum.inl a : Key) = Sum.inl b := fun q => e (Sum.inl.inj q)
    rw [decide_eq_false h]
    exact (beq_eq_false_iff_ne.mpr e).symm
theorem key_rr (a b : Str) : decide ((Sum.inr a : Key) = Sum.inr b) = decide (a = b) := by
  by_cases e : a = b
  · subst e; simp
  · have h : ¬ (Sum.inr a : Key) = Sum.inr b := fun q => e (Sum.inr.inj q)
    rw [decide_eq_false h, decide_eq_false e]
theorem key_lr (a : Int) (b : Str) : decide ((Sum.inl a : Key) = Sum.inr b) = false := decide_eq_false (fun q => nomatch q)
theorem key_rl (a : Str) (b : Int) : decide ((Sum.inr a : Key) = Sum.inl b) = false := decide_eq_false (fun q => nomatch q)

def mixKind (prog : Program) (w : World) : PySem.KeyKind prog w Key where
  is := keyIs
  hash := keyH w
  inj := fun v a b ha hb => by
    rcases keyIs_shape ha with ⟨i, t, rfl, rfl⟩ | ⟨x, t, rfl, rfl⟩
    · rcases keyIs_shape hb with ⟨j, u, rfl, e⟩ | ⟨y, u, rfl, e⟩
      · injection e with e1 _; rw [e1]
      · exact nomatch e
    · rcases keyIs_shape hb with ⟨j, u, rfl, e⟩ | ⟨y, u, rfl, e⟩
      · exact nomatch e
      · injection e with e1 _; rw [e1]
  byValue := fun k v h => by
    rcases keyIs_shape h with ⟨i, t, rfl, rfl⟩ | ⟨x, t, rfl, rfl⟩ <;> rfl
  pyHash := fun hv h => by
    rcases keyIs_shape hv with ⟨i, t, rfl, rfl⟩ | ⟨x, t, rfl, rfl⟩
    · exact wpAny_pyHash_int h
    · exact wpAny_pyHash_str h
  eqBool := fun hu hv h => by
    rcases keyIs_shape hu with ⟨i, t, rfl, rfl⟩ | ⟨x, t, rfl, rfl⟩
    · rcases keyIs_shape hv with ⟨j, u, rfl, rfl⟩ | ⟨y, u, rfl, rfl⟩
      · rw [key_ll] at h; exact wpAny_eqBool_int h
      · rw [key_lr] at h; exact SeqAt.EqAt.int_str i t y u _ _ _ _ h
    · rcases keyIs_shape hv with ⟨j, u, rfl, rfl⟩ | ⟨y, u, rfl, rfl⟩
      · rw [key_rl] at h; exact SeqAt.EqAt.str_int x t j u _ _ _ _ h
      · rw [key_rr] at h; exact wpAny_eqBool_str h
  «strs» := fun k x t v h => by
    rcases keyIs_shape h with ⟨i, u, rfl, e⟩ | ⟨y, u, rfl, e⟩
    · exact nomatch e
    · injection e with e1 _
      subst e1
      cases v <;> rfl

theorem mixKind_int (prog : Program) (w : World) (i : Int) (t : Tok) : (mixKind prog w).is (.inl i) (.int i t) = true := keyIs_int i t
theorem mixKind_str (prog : Program) (w : World) (x : Str) (t : Tok) : (mixKind prog w).is (.inr x) (.str x t) = true := keyIs_str x t
end L2

namespace L2
open PySem PySem.Spec PyProof.Rows

/-- a value, without the heap -/
inductive V where
  | non | bl (b : Bool) | int (i : Int) | str (x : Str) | byt (b : Array UInt8) | flt (b : UInt64) | ref (a : Addr) | ty (n : String)
  deriving DecidableEq

def RelV : V → Value → Prop
  | .non, u => u = Value.none
  | .bl b, u => u = Value.bool b
  | .int i, u => ∃ t, u = Value.int i t
  | .str x, u => ∃ t, u = Value.str x t
  | .byt b, u => ∃ t, u = Value.bytes b t
  | .flt b, u => ∃ t, u = Value.float b t
  | .ref a, u => u = Value.ref a
  | .ty n, u => u = Value.type n

abbrev Vals : List V → List Value → Prop := Paired RelV
theorem Vals.length {xs : List V} {us : List Value} (r : Vals xs us) : xs.length = us.length := Paired.length r
theorem Vals.get : ∀ {xs : List V} {us : List Value} {i : Nat} {x : V}, Vals xs us → xs[i]? = some x → ∃ u, us[i]? = some u ∧ RelV x u
  | _, _, _, _, .nil, e => by simp at e
  | _, _, 0, _, .cons r _, e => by simp at e; subst e; exact ⟨_, rfl, r⟩
  | _, _, i + 1, x, .cons _ t, e => by
    obtain ⟨u, h1, h2⟩ := Vals.get (i := i) (x := x) t (by simpa using e)
    exact ⟨u, by simpa using h1, h2⟩
theorem Vals.set {x : V} {u : Value} (r : RelV x u) : ∀ {xs : List V} {us : List Value} (i : Nat), Vals xs us → Vals (xs.set i x) (us.set i u)
  | _, _, _, .nil => .nil
  | _, _, 0, .cons _ t => .cons r t
  | _, _, i + 1, .cons q t => .cons q (Vals.set r i t)
theorem Vals.append : ∀ {xs ys : List V} {us ws : List Value}, Vals xs us → Vals ys ws → Vals (xs ++ ys) (us ++ ws)
  | _, _, _, _, .nil, s => s
  | _, _, _, _, .cons r t, s => .cons r (Vals.append t s)
theorem Vals.take : ∀ {xs : List V} {us : List Value} (n : Nat), Vals xs us → Vals (xs.take n) (us.take n)
  | _, _, 0, _ => .nil
  | _, _, _ + 1, .nil => .nil
  | _, _, n + 1, .cons r t => .cons r (Vals.take n t)
theorem Vals.drop : ∀ {xs : List V} {us : List Value} (n : Nat), Vals xs us → Vals (xs.drop n) (us.drop n)
  | _, _, 0, r => r
  | _, _, _ + 1, .nil => .nil
  | _, _, n + 1, .cons _ t => Vals.drop n t
def RelO : Option V → Option Value → Prop
  | some v, some u => RelV v u
  | none, none => True
  | _, _ => False
def KV {κ : Type} : List (κ × V) → List (κ × Value) → Prop := Paired fun (p : κ × V) (q : κ × Value) => p.1 = q.1 ∧ RelV p.2 q.2

/-- a key of a dict (00_mix): an int or a text -/
def kV : Key → V
  | .inl i => .int i
  | .inr x => .str x

/-- what stands at a tracked address -/
inductive HO where
  /-- a list -/
  | lst (xs : List V)
  /-- a tuple (never changes) -/
  | tup (xs : List V)
  /-- a dict whose keys are ints and texts; one whose keys are tuples of ints and texts (the empty one is both) -/
  | dK (kvs : List (Key × V)) | dT (kvs : List (List Key × V))
  /-- a set of ints: its members, its size -/
  | set (S : Int → Bool) (n : Nat)
  /-- an instance of the class at C, its dict at dx, its attributes -/
  | ins (C dx : Addr) (fs : List (Str × V))
  /-- the dict of the instance at x -/
  | own (x : Addr)
  /-- the dict of an exception -/
  | xd (fs : List (Str × V))
  /-- a bound method, f of x -/
  | met (f x : Addr)
  /-- a range object lo, lo + 1, .. below hi -/
  | rng (lo hi : Int)
  /-- a thing that is known to the object (the script; a dict while a loop walks it): read, never written while it is so -/
  | frz (o : Obj) (u : HO)
  /-- a code object's table -/
  | tbl (ps : Array Value)
  /-- any other thing, by what is true of its one object (a def of one's own: SetO a S n := HO.ext fun h => ..) -/
  | ext (φ : Heap → Prop)

abbrev Hp := Addr → Option HO
def upd (H : Hp) (a : Addr) (o : HO) : Hp := fun b => if b = a then some o else H b
theorem upd_same {H : Hp} {a : Addr} {o : HO} : upd H a o a = some o := by unfold upd; rw [if_pos rfl]
theorem upd_ne {H : Hp} {a b : Addr} {o : HO} (h : b ≠ a) : upd H a o b = H b := by unfold upd; rw [if_neg h]
/-- two objects of different content stand apart -/
theorem ne_of {H : Hp} {a b : Addr} {o u : HO} (h : H a = some o) (h' : H b = some u) (d : o ≠ u) : a ≠ b := by
  intro e; subst e; rw [h] at h'; exact d (Option.some.inj h')
theorem ne_of_none {H : Hp} {a b : Addr} {o : HO} (h : H a = some o) (h' : H b = none) : a ≠ b := by
  intro e; subst e; rw [h] at h'; cases h'

section
variable (P : Program) (w : World)
def ObjOk (H : Hp) (h : Heap) (a : Addr) : HO → Prop
  | .lst xs => xs.length ≤ sizeLine ∧ ∃ (its : List Value) (n : Nat), Vals xs its ∧ h.get? a = some { cls := .type "list", data := .seq its.toArray n }
  | .tup xs => xs.length ≤ sizeLine ∧ ∃ its : List Value, Vals xs its ∧ IsTup h a its.toArray
  | .dK kvs => kvs.length ≤ sizeLine ∧ (a == sysModules) = false ∧ ∃ vs, KV kvs vs ∧ h.DictOf (mixKind P w) a vs
  | .dT kvs => kvs.length ≤ sizeLine ∧ (a == sysModules) = false ∧ ∃ xs : List (List Key × Addr × Value),
      Paired (fun (p : List Key × V) (q : List Key × Addr × Value) => p.1 = q.1 ∧ H q.2.1 = some (.tup (p.1.map kV)) ∧ RelV p.2 q.2.2) kvs xs ∧
      ∃ o es ep, h.get? a = some o ∧ o.ExactDict ∧ o.data = .dict es ep ∧ es.toList = xs.map (entryOfKey (tupleKind (mixKind P w))) ∧ (xs.map (·.1)).Nodup
  | .set S n => h.SetOf (intKind P w) a S n
  | .ins C dx fs => H dx = some (.own a) ∧ fs.length ≤ 1000 ∧ dx ≠ a ∧ h.get? a = some (PySem.W.instObj C dx) ∧
      ∃ mA, h.Ns1 dx mA ∧ (∀ f, RelO (fs.lookup f) (mA f)) ∧ PySem.Within mA (fs.map (·.1))
  | .own _ => ∃ o, h.get? a = some o
  | .xd fs => ∃ mA, h.Ns1 a mA ∧ ∀ f, RelO (fs.lookup f) (mA f)
  | .rng lo hi => ∃ t u v, h.get? a = some { cls := .type "range", data := .fields #[.int lo t, .int hi u, .int 1 v] }
  | .frz o u => h.get? a = some o ∧ ObjOk H h a u
  | .tbl ps => h.get? a = some { cls := .none, data := .fields ps }
  | .met f x => h.get? a = some (PySem.W.methodObj (.ref f) (.ref x))
  | .ext φ => φ h ∧ (∃ o, h.get? a = some o) ∧ ∀ h1 h2 : Heap, φ h1 → (∀ o, h1.get? a = some o → h2.get? a = some o) → φ h2
/-- the abstract heap is held -/
def HOk (H : Hp) (h : Heap) : Prop := ∀ a o, H a = some o → ObjOk P w H h a o
end

section
variable {P : Program} {w : World} {H H' : Hp} {h h' : Heap} {a : Addr} {o : HO}
theorem ObjOk.lt (x : ObjOk P w H h a o) : a < h.objs.size := by
  cases o with
  | lst xs => obtain ⟨_, _, _, _, e⟩ := x; exact Heap.lt_size e
  | tup xs => obtain ⟨_, _, _, p⟩ := x; exact p.lt
  | dK kvs => obtain ⟨_, _, _, _, o, _, _, e, _⟩ := x; exact Heap.lt_size e
  | dT kvs => obtain ⟨_, _, _, _, o, _, _, e, _⟩ := x; exact Heap.lt_size e
  | set S n => obtain ⟨o, _, _, _, e, _⟩ := x; exact Heap.lt_size e
  | ins C dx fs => obtain ⟨_, _, _, e, _⟩ := x; exact Heap.lt_size e
  | own y => obtain ⟨_, e⟩ := x; exact Heap.lt_size e
  | xd fs => obtain ⟨_, ⟨_, _, _, e, _⟩, _⟩ := x; exact Heap.lt_size e
  | rng lo hi => obtain ⟨_, _, _, e⟩ := x; exact Heap.lt_size e
  | frz ob u => obtain ⟨e, _⟩ := x; exact Heap.lt_size e
  | tbl ps => exact Heap.lt_size (show h.get? a = some _ from x)
  | met f y => exact Heap.lt_size (show h.get? a = some _ from x)
  | ext φ => obtain ⟨_, ⟨_, e⟩, _⟩ := x; exact Heap.lt_size e
theorem Paired.mapP {α β : Type} {F G : α → β → Prop} : ∀ {l₁ : List α} {l₂ : List β}, Paired F l₁ l₂ → (∀ a b, F a b → G a b) → Paired G l₁ l₂
  | _, _, .nil, _ => .nil
  | _, _, .cons r t, f => .cons (f _ _ r) (Paired.mapP t f)
/-- what an object's description leans on: its own object, its own dict, the tuples -/
theorem ObjOk.stay (x : ObjOk P w H h a o) (k : ∀ b u, (b = a ∨ H b = some (.own a)) → h.get? b = some u → h'.get? b = some u)
    (ho : ∀ b, H b = some (.own a) → H' b = some (.own a)) (ht : ∀ b xs, H b = some (.tup xs) → H' b = some (.tup xs)) : ObjOk P w H' h' a o := by
  induction o with
  | lst xs => obtain ⟨z, its, n, r, e⟩ := x; exact ⟨z, its, n, r, k _ _ (.inl rfl) e⟩
  | tup xs => obtain ⟨z, its, r, ob, e, c⟩ := x; exact ⟨z, its, r, ob, k _ _ (.inl rfl) e, c⟩
  | dK kvs => obtain ⟨z, y, vs, r, ob, es, ep, e, c⟩ := x; exact ⟨z, y, vs, r, ob, es, ep, k _ _ (.inl rfl) e, c⟩
  | dT kvs =>
    obtain ⟨z, y, xs, r, ob, es, ep, e, c⟩ := x
    exact ⟨z, y, xs, Paired.mapP r fun p q z => ⟨z.1, ht _ _ z.2.1, z.2.2⟩, ob, es, ep, k _ _ (.inl rfl) e, c⟩
  | set S n => obtain ⟨ob, es, ep, t, e, c⟩ := x; exact ⟨ob, es, ep, t, k _ _ (.inl rfl) e, c⟩
  | ins C dx fs =>
    obtain ⟨d, z, ne, e, mA, ⟨od, es, ep, e2, c⟩, r⟩ := x
    exact ⟨ho _ d, z, ne, k _ _ (.inl rfl) e, mA, ⟨od, es, ep, k _ _ (.inr d) e2, c⟩, r⟩
  | own y => obtain ⟨ob, e⟩ := x; exact ⟨ob, k _ _ (.inl rfl) e⟩
  | xd fs => obtain ⟨mA, ⟨od, es, ep, e, c⟩, r⟩ := x; exact ⟨mA, ⟨od, es, ep, k _ _ (.inl rfl) e, c⟩, r⟩
  | rng lo hi => obtain ⟨t, u, v, e⟩ := x; exact ⟨t, u, v, k _ _ (.inl rfl) e⟩
  | frz ob u ih => obtain ⟨e, q⟩ := x; exact ⟨k _ _ (.inl rfl) e, ih q⟩
  | tbl ps =>
    have e : h.get? a = some { cls := .none, data := .fields ps } := x
    show h'.get? a = some { cls := .none, data := .fields ps }
    exact k a _ (.inl rfl) e
  | met f y =>
    have e : h.get? a = some (PySem.W.methodObj (.ref f) (.ref y)) := x
    show h'.get? a = some (PySem.W.methodObj (.ref f) (.ref y))
    exact k a _ (.inl rfl) e
  | ext φ => obtain ⟨p, ⟨o, e⟩, st⟩ := x; exact ⟨st _ _ p fun o q => k _ _ (.inl rfl) q, ⟨o, k _ _ (.inl rfl) e⟩, st⟩
theorem HOk.lt (x : HOk P w H h) (e : H a = some o) : a < h.objs.size := (x a o e).lt
theorem HOk.fresh (x : HOk P w H h) (e : h.objs.size ≤ a) : H a = none := by
  cases q : H a with
  | none => rfl
  | some u => exact absurd (Nat.lt_of_lt_of_le (x.lt q) e) (Nat.lt_irrefl _)
/-- every object of the heap is kept -/
theorem HOk.kept (x : HOk P w H h) (k : ∀ b u, h.get? b = some u → h'.get? b = some u) : HOk P w H h' := fun a o e =>
  (x a o e).stay (fun b u _ q => k b u q) (fun _ q => q) fun _ _ q => q
/-- a new object is laid and tracked -/
theorem HOk.laid (x : HOk P w H h) (k : ∀ b u, h.get? b = some u → h'.get? b = some u) (hp : h.objs.size ≤ a) (new : ObjOk P w (upd H a o) h' a o) : HOk P w (upd H a o) h' := fun b u e => by
  have hn := x.fresh hp
  by_cases hb : b = a
  · subst hb; rw [upd_same] at e; cases e; exact new
  · rw [upd_ne hb] at e
    exact (x b u e).stay (fun c v _ q => k c v q) (fun c q => by rw [upd_ne (ne_of_none q hn)]; exact q) fun c xs q => by rw [upd_ne (ne_of_none q hn)]; exact q
end

/-- what may be read as u: it is u, or a known u -/
def Rd (H : Hp) (a : Addr) (u : HO) : Prop := H a = some u ∨ ∃ o, H a = some (.frz o u)
theorem Rd.ok {P : Program} {w : World} {H : Hp} {h : Heap} {a : Addr} {u : HO} (r : Rd H a u) (x : HOk P w H h) : ObjOk P w H h a u := by
  rcases r with r | ⟨o, r⟩
  · exact x a u r
  · obtain ⟨_, q⟩ := x a _ r
    exact q
/-- what may be written -/
def Mut : Option HO → Prop
  | some (.lst _) => True
  | some (.dK _) => True
  | some (.dT _) => True
  | some (.set _ _) => True
  | some (.ins _ _ _) => True
  | some (.ext _) => True
  | _ => False
section
variable {P : Program} {w : World} {H : Hp} {h h' : Heap} {x e : Addr} {o' : HO}
/-- the object at e is changed: x itself, or the dict of the instance x -/
theorem HOk.write (ok : HOk P w H h) (mu : Mut (H x)) (he : e = x ∨ H e = some (.own x)) (k : ∀ b u, b ≠ e → h.get? b = some u → h'.get? b = some u) (heo : ∃ u, h'.get? e = some u)
    (new : ObjOk P w (upd H x o') h' x o') : HOk P w (upd H x o') h' := fun b u q => by
  have nown : ∀ c y, H c = some (.own y) → c ≠ x := fun c y r z => by subst z; rw [r] at mu; exact mu
  have ntup : ∀ c xs, H c = some (.tup xs) → c ≠ x := fun c xs r z => by subst z; rw [r] at mu; exact mu
  by_cases hb : b = x
  · subst hb; rw [upd_same] at q; cases q; exact new
  · rw [upd_ne hb] at q
    by_cases hbe : b = e
    · have q' : H b = some (.own x) := by
        rcases he with z | z
        · exact absurd (hbe.trans z) hb
        · rw [hbe]; exact z
      rw [q] at q'; cases q'
      obtain ⟨v, hv⟩ := heo
      exact ⟨v, by rw [hbe]; exact hv⟩
    · refine (ok b u q).stay (fun c v hc r => k c v ?_ r) (fun c r => by rw [upd_ne (nown c b r)]; exact r) fun c xs r => by rw [upd_ne (ntup c xs r)]; exact r
      rcases hc with rfl | hc
      · exact hbe
      · rintro rfl
        rcases he with z | z
        · exact nown c b hc z
        · rw [hc] at z; cases z; exact hb rfl
end

/-! ### kept unless tracked; of the frames at fs (the callers') the slots may change (an exception that passes writes there); of the records at ex (iterators) nothing is said -/
structure Un (fs ex : List Addr) (H H' : Hp) (h h' : Heap) : Prop where
  keep : ∀ b o, h.get? b = some o → H b = none → b ∉ fs → b ∉ ex → h'.get? b = some o
  slot : ∀ b o, h.get? b = some o → H b = none → b ∈ fs → b ∉ ex → ∃ sl, h'.get? b = some { o with slots := sl }
  free : ∀ b o, h.get? b = some o → H b = none → b ∉ ex → H' b = none
  there : ∀ b o, h.get? b = some o → b ∉ ex → ∃ o', h'.get? b = some o'
  tups : ∀ b xs, H b = some (.tup xs) → H' b = some (.tup xs)
  frzs : ∀ b o u, H b = some (.frz o u) → H' b = some (.frz o u)
  tbls : ∀ b ps, H b = some (.tbl ps) → ∃ more, H' b = some (.tbl (ps ++ more))
section
variable {fs fs' ex ex' : List Addr} {H H1 H2 : Hp} {h h1 h2 h' : Heap} {a x e : Addr} {o : HO}
theorem Un.any (u : Un fs ex H H1 h h1) {b : Addr} {ob : Obj} (q : h.get? b = some ob) (n : H b = none) (hx : b ∉ ex) : ∃ sl, h1.get? b = some { ob with slots := sl } := by
  by_cases hb : b ∈ fs
  · exact u.slot b ob q n hb hx
  · exact ⟨ob.slots, u.keep b ob q n hb hx⟩
theorem Un.kept (k : ∀ b u, h.get? b = some u → h'.get? b = some u) : Un fs ex H H h h' :=
  ⟨fun b ob q _ _ _ => k b ob q, fun b ob q _ _ _ => ⟨ob.slots, k b ob q⟩, fun _ _ _ n _ => n, fun b ob q _ => ⟨ob, k b ob q⟩, fun _ _ q => q, fun _ _ _ q => q, fun _ ps q => ⟨#[], by rw [q]; simp⟩⟩
theorem Un.refl : Un fs ex H H h h := Un.kept fun _ _ q => q
theorem Un.laid (k : ∀ b u, h.get? b = some u → h'.get? b = some u) (hp : h.objs.size ≤ a) (hn : H a = none) : Un fs ex H (upd H a o) h h' where
  keep := fun b u q _ _ _ => k b u q
  slot := fun b u q _ _ _ => ⟨u.slots, k b u q⟩
  free := fun b u q n _ => by rw [upd_ne (Nat.ne_of_lt (Nat.lt_of_lt_of_le (Heap.lt_size q) hp))]; exact n
  there := fun b u q _ => ⟨u, k b u q⟩
  tups := fun b xs q => by rw [upd_ne (ne_of_none q hn)]; exact q
  frzs := fun b u xs q => by rw [upd_ne (ne_of_none q hn)]; exact q
  tbls := fun b ps q => ⟨#[], by rw [upd_ne (ne_of_none q hn), q]; simp⟩
theorem Un.write (mu : Mut (H x)) (he : e = x ∨ H e = some (.own x)) (k : ∀ b u, b ≠ e → h.get? b = some u → h'.get? b = some u) (heo : ∃ u, h'.get? e = some u) : Un fs ex H (upd H x o) h h' := by
  have hx : ∀ b, H b = none → b ≠ x := fun b n z => by subst z; rw [n] at mu; exact mu
  have hb : ∀ b, H b = none → b ≠ e := fun b n z => by
    subst z
    rcases he with r | r
    · exact hx b n r
    · rw [n] at r; cases r
  have hm : ∀ b u, H b = some u → ¬ Mut (some u) → b ≠ x := fun b u q nm z => by subst z; rw [q] at mu; exact nm mu
  refine ⟨fun b u q n _ _ => k b u (hb b n) q, fun b u q n _ _ => ⟨u.slots, k b u (hb b n) q⟩, fun b u q n _ => by rw [upd_ne (hx b n)]; exact n, fun b u q _ => ?_,
    fun b xs q => by rw [upd_ne (hm b _ q fun z => z)]; exact q, fun b u xs q => by rw [upd_ne (hm b _ q fun z => z)]; exact q, fun b ps q => ⟨#[], by rw [upd_ne (hm b _ q fun z => z), q]; simp⟩⟩
  by_cases hbe : b = e
  · subst hbe; exact heo
  · exact ⟨u, k b u hbe q⟩
end

/-! ### the heap without what is tracked -/
def trk (h : Heap) (H : Hp) : List Addr := (List.range h.objs.size).filter fun a => (H a).isSome
def hidT (h : Heap) (H : Hp) : Heap := PySem.W.hideAll h (trk h H)
theorem hidT_size (h : Heap) (H : Hp) : (hidT h H).objs.size = h.objs.size := PySem.W.hideAll_size _ _
theorem hidT_get {h : Heap} {H : Hp} {b : Addr} {o : Obj} (e : h.get? b = some o) (n : H b = none) : (hidT h H).get? b = some o :=
  PySem.W.hideAll_get _ e fun hm => by
    have q : (H b).isSome = true := (List.mem_filter.mp hm).2
    rw [n] at q; simp at q
theorem of_hidT {h : Heap} {H : Hp} {b : Addr} {o : Obj} (e : (hidT h H).get? b = some o) : h.get? b = some o ∧ H b = none := by
  have e' : h.get? b = some o := PySem.W.of_hideAll (trk h H) e
  refine ⟨e', ?_⟩
  cases q : H b with
  | none => rfl
  | some x =>
    have hm : b ∈ trk h H := List.mem_filter.mpr ⟨List.mem_range.mpr (Heap.lt_size e'), by simp [q]⟩
    have z : (hidT h H).get? b = none := PySem.W.hideAll_none (trk h H) hm
    rw [z] at e; cases e

/-! ### OpenK's ledger, filled with every new object but one -/
def allNews (g h : Heap) (L : Addr) : List (Addr × Obj) := (List.range h.objs.size).filterMap fun a => if a = L ∨ (g.get? a).isSome = true then none else (h.get? a).map fun o => (a, o)
def rest (g h : Heap) (L d : Addr) : List (Addr × Obj) := (allNews g h L).filter fun p => decide (p.1 ≠ d)
end L2

namespace L2
open PySem PySem.Spec PyProof.Rows

/-- the module's facts, over the base: the heap at the law's entry without what is tracked there -/
structure Mod (K : PySem.W.Frag) (mg : Str → Option Value) (base : Heap) : Prop where
  kin : K.In base
  glob : base.Ns mainGlobals mg
  blt : ∃ mb, base.Ns builtinsNs mb ∧ ∀ x : Str, x ≠ "__name__" → mb x = bootBuiltins x
  nolimit : base.NoLimit

/-- the context: a def's body (or a comprehension's block) running. base: fixed through the whole law; s₀, H₀: the entry; outer: the frames whose slots others may change (a def's callers); stack: all frames that run;
   ex: iterators that were made ahead of the entry and are walked here (a comprehension's); fn: the names whose cells were made at the entry (a def: all; a comprehension's block: its own); calm: not within an except suite; pn: pins that every state bears; xe: what is wanted of an exception that leaves the code -/
structure Cx where
  prog : Program
  w : World
  K : PySem.W.Frag
  mg : Str → Option Value
  base : Heap
  A : Around
  N : List Str
  s₀ : Shared
  H₀ : Hp
  env : Env
  outer : List Env
  stack : List Env
  ex : List Addr
  fn : Str → Bool
  calm : Bool
  pn : List (Addr × Obj)
  xe : Value → Shared → Prop
/-- the callers' frames -/
def frs (l : List Env) : List Addr := l.filterMap (·.frame)
abbrev Cx.fs (X : Cx) : List Addr := frs X.outer

def Vis (sc : Scope) (x : Str) : Prop := sc.names.lookup x = some .local ∨ sc.names.lookup x = some .cell ∨ sc.names.lookup x = some .free
def Loc (sc : Scope) (x : Str) : Prop := sc.names.lookup x = some .local ∨ sc.names.lookup x = some .cell
def Look (env : Env) (h : Heap) (m : Str → Option Value) (x : Str) (u : Value) : Prop :=
  (env.kindOf x = some .local ∧ m x = some u) ∨ ((env.kindOf x = some .cell ∨ env.kindOf x = some .free) ∧ ∃ c, env.cells.lookup x = some c ∧ h.IsCell c (some u))

structure Cx.Ok (X : Cx) : Prop where
  mod : Mod X.K X.mg X.base
  kind : X.env.scope.kind = .function
  glob : X.env.globals = mainGlobals
  blt : X.env.builtins = builtinsNs
  above : X.s₀.heap.objs.size ≤ X.env.locals
  inj : ∀ x y c, X.env.cells.lookup x = some c → X.env.cells.lookup y = some c → x = y
  has : ∀ x, (X.env.kindOf x = some .cell ∨ X.env.kindOf x = some .free) → ∃ c, X.env.cells.lookup x = some c
  cab : ∀ x c, X.fn x = true → X.env.cells.lookup x = some c → X.s₀.heap.objs.size ≤ c
  hd : X.calm = true → X.A.handled = none
  frames : X.A.frames = some X.stack
  stk : X.stack = X.outer ∨ (X.stack = X.env :: X.outer ∧ X.env.frame = some X.env.locals)
  exf : ∀ b ∈ X.ex, b ≠ X.env.locals ∧ ∀ x c, X.env.cells.lookup x = some c → c ≠ b
  bs : ∀ b o, X.base.get? b = some o → X.s₀.heap.get? b = some o ∧ X.H₀ b = none
  bsz : X.base.objs.size ≤ X.s₀.heap.objs.size
  noex : ∀ b o, X.base.get? b = some o → b ∉ X.ex
  exfs : ∀ b ∈ X.ex, b ∉ X.fs
  funs : X.s₀.heap.FunFrames X.base X.outer
  frf : ∀ b ∈ X.fs, X.H₀ b = none

structure Inv (X : Cx) (pins : List (Addr × Obj)) (σ : List (Option V)) (H : Hp) (s : Shared) : Prop where
  ok : X.Ok
  os : s.os = X.s₀.os
  bare : AllBare s.gens
  base : Un X.fs X.ex X.H₀ H X.s₀.heap s.heap
  loc : ∃ m, s.heap.Ns X.env.locals m ∧ ∀ (i : Nat) (x : Str) (v : V), X.N[i]? = some x → σ[i]? = some (some v) → Vis X.env.scope x → ∃ u, RelV v u ∧ Look X.env s.heap m x u
  cell : ∀ x c, X.env.cells.lookup x = some c → ∃ v, s.heap.IsCell c v
  free : H X.env.locals = none
  freeC : ∀ x c, X.env.cells.lookup x = some c → H c = none
  pin : ∀ p ∈ X.pn ++ pins, s.heap.get? p.1 = some p.2 ∧ H p.1 = none ∧ p.1 ≠ X.env.locals ∧ p.1 ∉ X.fs ∧ ∀ v, p.2.data ≠ .cell v
  hok : HOk X.prog X.w H s.heap
  len : σ.length = X.N.length

section
variable {X : Cx} {pins : List (Addr × Obj)} {σ : List (Option V)} {H H' : Hp} {s : Shared} {h' : Heap}

theorem Cx.Ok.nofr (ok : X.Ok) {b : Addr} {o : Obj} (e : X.base.get? b = some o) : b ∉ X.fs := fun hb => by
  have := (ok.funs.mem hb).1
  rw [e] at this; cases this
theorem Inv.bs (I : Inv X pins σ H s) : ∀ b o, X.base.get? b = some o → s.heap.get? b = some o ∧ H b = none := fun b o e =>
  ⟨I.base.keep b o (I.ok.bs b o e).1 (I.ok.bs b o e).2 (I.ok.nofr e) (I.ok.noex b o e), I.base.free b o (I.ok.bs b o e).1 (I.ok.bs b o e).2 (I.ok.noex b o e)⟩
theorem Inv.bk (I : Inv X pins σ H s) : ∀ b o, X.base.get? b = some o → s.heap.get? b = some o := fun b o e => (I.bs b o e).1
theorem Inv.mod (I : Inv X pins σ H s) : Mod X.K X.mg X.base := I.ok.mod
theorem Inv.kIn (I : Inv X pins σ H s) : X.K.In s.heap := I.ok.mod.kin.keeps I.bk
theorem Inv.lt (I : Inv X pins σ H s) : X.env.locals < s.heap.objs.size := let ⟨_, hn, _⟩ := I.loc; hn.lt
theorem Inv.sz (I : Inv X pins σ H s) : X.s₀.heap.objs.size ≤ s.heap.objs.size := Nat.le_trans I.ok.above (Nat.le_of_lt I.lt)
theorem Inv.nofs (I : Inv X pins σ H s) {a : Addr} (h : s.heap.objs.size ≤ a) : a ∉ X.fs := fun hb => by
  obtain ⟨_, o, ho, _⟩ := I.ok.funs.mem hb
  exact absurd (Nat.lt_of_lt_of_le (Heap.lt_size ho) (Nat.le_trans I.sz h)) (Nat.lt_irrefl _)
theorem Inv.cne (I : Inv X pins σ H s) : ∀ x c, X.env.cells.lookup x = some c → c ≠ X.env.locals := fun x c e z => by
  obtain ⟨v, o, ho, hd⟩ := I.cell x c e
  obtain ⟨m, ⟨o', es, ep, ho', hd', _⟩, _⟩ := I.loc
  rw [z, ho'] at ho; cases ho; rw [hd'] at hd; cases hd
theorem Inv.funs (I : Inv X pins σ H s) : s.heap.FunFrames X.base X.outer := by
  have all : ∀ (l : List Env), (∀ b ∈ frs l, b ∈ X.fs) → X.s₀.heap.FunFrames X.base l → s.heap.FunFrames X.base l := by
    intro l
    induction l with
    | nil => intro _ _; trivial
    | cons env r ih =>
      intro hs hl
      obtain ⟨hk, ⟨L, o, hf, hn, ho, hd⟩, hr⟩ := hl
      have hL : L ∈ X.fs := hs L (by unfold frs; rw [List.filterMap_cons, hf]; exact List.mem_cons_self)
      obtain ⟨sl, e⟩ := I.base.slot L o ho (I.ok.frf L hL) hL fun z => I.ok.exfs L z hL
      exact ⟨hk, ⟨L, _, hf, hn, e, hd⟩, ih (fun b hb => hs b (by unfold frs; rw [List.filterMap_cons, hf]; exact List.mem_cons_of_mem _ hb)) hr⟩
  exact all X.outer (fun _ hb => hb) I.ok.funs

/-- the frames that run, for a call -/
theorem Inv.stack (I : Inv X pins σ H s) : s.heap.FunFrames X.base X.stack := by
  rcases I.ok.stk with e | ⟨e, hf⟩
  · rw [e]; exact I.funs
  · rw [e]
    obtain ⟨m, hn, _⟩ := I.loc
    refine .cons (by rw [I.ok.kind]; decide) hf hn ?_ I.funs
    exact Heap.get?_none_of_le (Nat.le_trans I.ok.bsz I.ok.above)
theorem Inv.stkSub (I : Inv X pins σ H s) : ∀ b ∈ frs X.stack, b ∈ X.env.locals :: X.fs := fun b hb => by
  rcases I.ok.stk with e | ⟨e, hf⟩
  · rw [e] at hb; exact List.mem_cons_of_mem _ hb
  · rw [e] at hb
    unfold frs at hb
    rw [List.filterMap_cons, hf] at hb
    exact hb
theorem Inv.stkFree (I : Inv X pins σ H s) : ∀ b ∈ frs X.stack, H b = none := fun b hb => by
  rcases List.mem_cons.mp (I.stkSub b hb) with e | hb
  · rw [e]; exact I.free
  · obtain ⟨_, o, ho, _⟩ := I.ok.funs.mem hb
    exact I.base.free b o ho (I.ok.frf b hb) fun z => I.ok.exfs b z hb

/-- THE STEP: the untracked objects but the frame and the records at ch are kept (the callers' frames up to slots), the frame's map is kept, the new abstract heap is held -/
theorem Inv.step {g' : Array GenState} {t' : Nat} {d' : Drawn} {ch : List Addr} (I : Inv X pins σ H s)
    (hch : ∀ b ∈ ch, (b ∈ X.ex ∨ X.s₀.heap.objs.size ≤ b) ∧ b ≠ X.env.locals ∧ (∀ x c, X.env.cells.lookup x = some c → c ≠ b) ∧ ∀ p ∈ X.pn ++ pins, p.1 ≠ b)
    (keep : ∀ b o, b ≠ X.env.locals → b ∉ X.fs → b ∉ ch → s.heap.get? b = some o → H b = none → h'.get? b = some o)
    (slot : ∀ b o, b ≠ X.env.locals → b ∈ X.fs → b ∉ ch → s.heap.get? b = some o → H b = none → ∃ sl, h'.get? b = some { o with slots := sl }) (free : ∀ b o, b ∉ ch → s.heap.get? b = some o → H b = none → H' b = none)
    (there : ∀ b o, b ∉ ch → s.heap.get? b = some o → ∃ o', h'.get? b = some o')
    (tups : ∀ b xs, H b = some (.tup xs) → H' b = some (.tup xs)) (frzs : ∀ b o u, H b = some (.frz o u) → H' b = some (.frz o u)) (tbls : ∀ b ps, H b = some (.tbl ps) → ∃ more, H' b = some (.tbl (ps ++ more)))
    (ns : ∀ m, s.heap.Ns X.env.locals m → h'.Ns X.env.locals m) (hok : HOk X.prog X.w H' h') (hg : AllBare g') :
    Inv X pins σ H' { s with heap := h', gens := g', drawn := d', toks := t' } := by
  have neL : ∀ b o, X.s₀.heap.get? b = some o → b ≠ X.env.locals := fun b o e => Nat.ne_of_lt (Nat.lt_of_lt_of_le (Heap.lt_size e) I.ok.above)
  have neC : ∀ b o, X.s₀.heap.get? b = some o → b ∉ X.ex → b ∉ ch := fun b o e hx hb => by
    rcases (hch b hb).1 with z | z
    · exact hx z
    · exact absurd (Nat.lt_of_lt_of_le (Heap.lt_size e) z) (Nat.lt_irrefl _)
  have cellK : ∀ x c, X.env.cells.lookup x = some c → ∀ v, s.heap.IsCell c v → h'.IsCell c v := fun x c e v ⟨o, ho, hd⟩ => by
    have nch : c ∉ ch := fun z => (hch c z).2.2.1 x c e rfl
    by_cases hc : c ∈ X.fs
    · obtain ⟨sl, q⟩ := slot c o (I.cne x c e) hc nch ho (I.freeC x c e)
      exact ⟨_, q, hd⟩
    · exact ⟨o, keep c o (I.cne x c e) hc nch ho (I.freeC x c e), hd⟩
  refine ⟨I.ok, I.os, hg, ⟨fun b o e n hb hx => ?_, fun b o e n hb hx => ?_, fun b o e n hx => ?_, fun b o e hx => ?_, fun b xs e => tups b xs (I.base.tups b xs e), fun b o xs e => frzs b o xs (I.base.frzs b o xs e), fun b ps e => ?_⟩, ?_, fun x c e => ?_, ?_, fun x c e => ?_, fun p hp => ?_, hok, I.len⟩
  · exact keep b o (neL b o e) hb (neC b o e hx) (I.base.keep b o e n hb hx) (I.base.free b o e n hx)
  · obtain ⟨sl, e1⟩ := I.base.slot b o e n hb hx
    obtain ⟨sl', e2⟩ := slot b _ (neL b o e) hb (neC b o e hx) e1 (I.base.free b o e n hx)
    exact ⟨sl', e2⟩
  · obtain ⟨o', e1⟩ := I.base.there b o e hx
    exact free b o' (neC b o e hx) e1 (I.base.free b o e n hx)
  · obtain ⟨o', e1⟩ := I.base.there b o e hx
    exact there b o' (neC b o e hx) e1
  · obtain ⟨m1, e1⟩ := I.base.tbls b ps e
    obtain ⟨m2, e2⟩ := tbls b _ e1
    exact ⟨m1 ++ m2, by rw [e2, Array.append_assoc]⟩
  · obtain ⟨m, hn, hl⟩ := I.loc
    refine ⟨m, ns m hn, fun i x v e1 e2 e3 => ?_⟩
    obtain ⟨u, r, l⟩ := hl i x v e1 e2 e3
    refine ⟨u, r, ?_⟩
    rcases l with l | ⟨k, c, e, z⟩
    · exact .inl l
    · exact .inr ⟨k, c, e, cellK x c e _ z⟩
  · obtain ⟨v, z⟩ := I.cell x c e
    exact ⟨v, cellK x c e v z⟩
  · obtain ⟨m, ⟨o, _, _, ho, _⟩, _⟩ := I.loc
    exact free _ o (fun z => (hch _ z).2.1 rfl) ho I.free
  · obtain ⟨v, o, ho, hd⟩ := I.cell x c e
    exact free c o (fun z => (hch c z).2.2.1 x c e rfl) ho (I.freeC x c e)
  · obtain ⟨e, n, ne, nf, d⟩ := I.pin p hp
    have nch : p.1 ∉ ch := fun z => (hch p.1 z).2.2.2 p hp rfl
    exact ⟨keep p.1 p.2 ne nf nch e n, free p.1 p.2 nch e n, ne, nf, d⟩
/-- .. where the frame's own object is kept too -/
theorem Inv.un {t' : Nat} (I : Inv X pins σ H s) (u : Un X.fs [] H H' s.heap h') (hok : HOk X.prog X.w H' h') : Inv X pins σ H' { s with heap := h', toks := t' } := by
  obtain ⟨m, ⟨o, es, ep, ho, r⟩, _⟩ := id I.loc
  obtain ⟨sl, hL⟩ := u.any ho I.free (by simp)
  exact I.step (g' := s.gens) (d' := s.drawn) (ch := []) (fun _ z => nomatch z) (fun b o _ hb _ e n => u.keep b o e n hb (by simp)) (fun b o _ hb _ e n => u.slot b o e n hb (by simp)) (fun b o _ e n => u.free b o e n (by simp)) (fun b o _ e => u.there b o e (by simp)) u.tups u.frzs u.tbls (fun m' hm => by
    obtain ⟨o', es', ep', ho', r'⟩ := hm
    rw [ho] at ho'; cases ho'
    exact ⟨_, es', ep', hL, r'⟩) hok I.bare
/-- behind a call (or a comprehension's block): the slots of this frame may have changed too, the records at ch may have turned -/
theorem Inv.call {g' : Array GenState} {t' : Nat} {d' : Drawn} {ch : List Addr} (I : Inv X pins σ H s) (u : Un (frs X.stack) ch H H' s.heap h') (hok : HOk X.prog X.w H' h') (hg : AllBare g')
    (hch : ∀ b ∈ ch, (b ∈ X.ex ∨ X.s₀.heap.objs.size ≤ b) ∧ b ≠ X.env.locals ∧ (∀ x c, X.env.cells.lookup x = some c → c ≠ b) ∧ ∀ p ∈ X.pn ++ pins, p.1 ≠ b) :
    Inv X pins σ H' { s with heap := h', gens := g', drawn := d', toks := t' } := by
  obtain ⟨m, ⟨o, es, ep, ho, r⟩, _⟩ := id I.loc
  obtain ⟨sl, hL⟩ := u.any ho I.free fun z => (hch _ z).2.1 rfl
  exact I.step (ch := ch) hch (fun b o hL hb hc e n => u.keep b o e n (fun z => (List.mem_cons.mp (I.stkSub b z)).elim hL hb) hc) (fun b o _ _ hc e n => u.any e n hc) (fun b o hc e n => u.free b o e n hc) (fun b o hc e => u.there b o e hc) u.tups u.frzs u.tbls (fun m' hm => by
    obtain ⟨o', es', ep', ho', r'⟩ := hm
    rw [ho] at ho'; cases ho'
    exact ⟨_, es', ep', hL, r'⟩) hok hg
/-- an untracked record of ours (an iterator) has turned -/
theorem Inv.turned {t' : Nat} {it : Addr} (I : Inv X pins σ H s) (k : ∀ b o, b ≠ it → s.heap.get? b = some o → h'.get? b = some o) (hn : H it = none) (hL : it ≠ X.env.locals)
    (h1 : it ∈ X.ex ∨ X.s₀.heap.objs.size ≤ it) (h2 : ∀ x c, X.env.cells.lookup x = some c → c ≠ it) (h3 : ∀ p ∈ X.pn ++ pins, p.1 ≠ it) : Inv X pins σ H { s with heap := h', toks := t' } := by
  have nit : ∀ b u, H b = some u → b ≠ it := fun b u e z => by rw [z, hn] at e; cases e
  refine I.step (g' := s.gens) (d' := s.drawn) (ch := [it]) (fun b hb => ?_) (fun b o _ _ hc e _ => k b o (fun z => hc (by simp [z])) e) (fun b o _ _ hc e _ => ⟨o.slots, k b o (fun z => hc (by simp [z])) e⟩) (fun _ _ _ _ n => n)
    (fun b o hc e => ⟨o, k b o (fun z => hc (by simp [z])) e⟩) (fun _ _ e => e) (fun _ _ _ e => e) (fun b ps e => ⟨#[], by rw [e]; simp⟩) (fun m hm => ?_) (fun b u e => ?_) I.bare
  · have e : b = it := by simpa using hb
    subst e
    exact ⟨h1, hL, h2, h3⟩
  · obtain ⟨o, es, ep, ho, r⟩ := hm
    exact ⟨o, es, ep, k _ o (Ne.symm hL) ho, r⟩
  · refine (I.hok b u e).stay (fun c v hc q => k c v ?_ q) (fun _ q => q) fun _ _ q => q
    rcases hc with z | z
    · rw [z]; exact nit b u e
    · exact nit c _ z
theorem Inv.tok (I : Inv X pins σ H s) (t : Nat) : Inv X pins σ H { s with toks := t } := I.un (h' := s.heap) (t' := t) Un.refl I.hok
/-- all objects kept -/
theorem Inv.kept {t' : Nat} (I : Inv X pins σ H s) (k : ∀ b u, s.heap.get? b = some u → h'.get? b = some u) : Inv X pins σ H { s with heap := h', toks := t' } := I.un (Un.kept k) (I.hok.kept k)
/-- a new object laid and tracked -/
theorem Inv.laid {a : Addr} {o : HO} {t' : Nat} (I : Inv X pins σ H s) (k : ∀ b u, s.heap.get? b = some u → h'.get? b = some u) (hp : s.heap.objs.size ≤ a) (new : ObjOk X.prog X.w (upd H a o) h' a o) :
    Inv X pins σ (upd H a o) { s with heap := h', toks := t' } := I.un (Un.laid k hp (I.hok.fresh hp)) (I.hok.laid k hp new)
/-- an object written -/
theorem Inv.write {x e : Addr} {o : HO} {t' : Nat} (I : Inv X pins σ H s) (mu : Mut (H x)) (he : e = x ∨ H e = some (.own x)) (k : ∀ b u, b ≠ e → s.heap.get? b = some u → h'.get? b = some u) (heo : ∃ u, h'.get? e = some u)
    (new : ObjOk X.prog X.w (upd H x o) h' x o) : Inv X pins σ (upd H x o) { s with heap := h', toks := t' } := I.un (Un.write mu he k heo) (I.hok.write mu he k heo new)
theorem Inv.pins_of {pins' : List (Addr × Obj)} (I : Inv X pins σ H s) (h : ∀ p ∈ pins', s.heap.get? p.1 = some p.2 ∧ H p.1 = none ∧ p.1 ≠ X.env.locals ∧ p.1 ∉ X.fs ∧ ∀ v, p.2.data ≠ .cell v) : Inv X pins' σ H s :=
  ⟨I.ok, I.os, I.bare, I.base, I.loc, I.cell, I.free, I.freeC, fun p hp => (List.mem_append.mp hp).elim (fun z => I.pin p (List.mem_append_left _ z)) (h p), I.hok, I.len⟩

theorem nodup_ix {N : List Str} (hN : N.Nodup) {i j : Nat} {x : Str} (a : N[i]? = some x) (b : N[j]? = some x) : i = j := by
  obtain ⟨h1, e1⟩ := List.getElem?_eq_some_iff.mp a
  obtain ⟨h2, e2⟩ := List.getElem?_eq_some_iff.mp b
  exact (List.getElem_inj hN).mp (e1.trans e2.symm)

/-- a name is stored; what changed -/
theorem store_ok2 {M : Model} {A : Around} {E : Value → Shared → Prop} {i : Nat} {x : Str} {v : V} {u : Value} {Q : Unit → Shared → Prop} (I : Inv X pins σ H s) (hN : X.N.Nodup) (hi : X.N[i]? = some x) (hx : Loc X.env.scope x) (r : RelV v u)
    (h : ∀ s', Inv X pins (σ.set i (some v)) H s' → (∃ a, Heap.SameBut a s.heap s'.heap ∧ (a = X.env.locals ∨ X.env.cells.lookup x = some a)) → Q () s') (hf : X.fn x = true ∨ X.env.scope.names.lookup x = some .local := by first | exact .inl rfl | exact .inr rfl | assumption) : wpAny M A (storeName X.env x u) Q E s := by
  obtain ⟨m, hn, hl⟩ := id I.loc
  have hcls : (X.env.scope.kind == .class || (X.env.scope.kind == .module && X.env.locals != X.env.globals)) = false := by rw [I.ok.kind]; rfl
  have hiσ : i < σ.length := by rw [I.len]; exact (List.getElem?_eq_some_iff.mp hi).1
  have cne := I.cne
  have tracked : ∀ {a : Addr} {h' : Heap}, (∃ o, s.heap.get? a = some o ∧ H a = none) → Heap.SameBut a s.heap h' → HOk X.prog X.w H h' := fun {a h'} ha hs b ob e => by
    obtain ⟨_, _, hfree⟩ := ha
    refine (I.hok b ob e).stay (fun c w' hc q => (hs.2 c ?_).trans q) (fun _ q => q) fun _ _ q => q
    rintro rfl
    rcases hc with rfl | hc
    · rw [hfree] at e; cases e
    · rw [hfree] at hc; cases hc
  rcases hx with hk | hk
  · refine wpAny_storeName_local hk hn (fun h' hn' hs => ?_) hcls
    obtain ⟨oL, _, _, hoL, _⟩ := id hn
    refine h _ ⟨I.ok, I.os, I.bare, ⟨fun b o e n hb hx => ?_, fun b o e n hb hx => ?_, I.base.free, fun b o e hx => ?_, I.base.tups, I.base.frzs, I.base.tbls⟩, ⟨_, hn', fun j y v' e1 e2 e3 => ?_⟩, fun y c e => ?_, I.free, I.freeC, fun p hp => ?_, tracked ⟨oL, hoL, I.free⟩ hs, by simpa using I.len⟩ ⟨_, hs, .inl rfl⟩
    · exact (hs.2 b (Nat.ne_of_lt (Nat.lt_of_lt_of_le (Heap.lt_size e) I.ok.above))).trans (I.base.keep b o e n hb hx)
    · obtain ⟨sl, e1⟩ := I.base.slot b o e n hb hx
      exact ⟨sl, (hs.2 b (Nat.ne_of_lt (Nat.lt_of_lt_of_le (Heap.lt_size e) I.ok.above))).trans e1⟩
    · obtain ⟨o', e1⟩ := I.base.there b o e hx
      exact ⟨o', (hs.2 b (Nat.ne_of_lt (Nat.lt_of_lt_of_le (Heap.lt_size e) I.ok.above))).trans e1⟩
    · by_cases hj : j = i
      · subst hj
        rw [hi] at e1; cases e1
        rw [List.getElem?_set_self hiσ] at e2
        cases e2
        exact ⟨u, r, .inl ⟨hk, by simp⟩⟩
      · rw [List.getElem?_set_ne (Ne.symm hj)] at e2
        obtain ⟨u', r', q⟩ := hl j y v' e1 e2 e3
        refine ⟨u', r', ?_⟩
        rcases q with ⟨k, e⟩ | ⟨k, c, e, z⟩
        · refine .inl ⟨k, ?_⟩
          have : y ≠ x := fun e => hj (nodup_ix hN e1 (e ▸ hi))
          simp [this, e]
        · exact .inr ⟨k, c, e, z.sameBut hs (cne y c e)⟩
    · obtain ⟨w', z⟩ := I.cell y c e
      exact ⟨w', z.sameBut hs (cne y c e)⟩
    · obtain ⟨e, n, ne, nf, d⟩ := I.pin p hp
      exact ⟨(hs.2 p.1 ne).trans e, n, ne, nf, d⟩
  · have hfn : X.fn x = true := by
      rcases hf with z | z
      · exact z
      · rw [z] at hk; cases hk
    obtain ⟨c, hc⟩ := I.ok.has x (.inl hk)
    obtain ⟨w', z⟩ := I.cell x c hc
    refine wpAny_storeName_cell I.ok.kind hk hc z (fun h' hc' hs => ?_)
    obtain ⟨oc, hoc, hocd⟩ := id z
    refine h { s with heap := h' } ⟨I.ok, I.os, I.bare, ⟨fun b o e n hb hx => ?_, fun b o e n hb hx => ?_, I.base.free, fun b o e hx => ?_, I.base.tups, I.base.frzs, I.base.tbls⟩, ⟨m, hn.sameBut hs (Ne.symm (cne x c hc)), fun j y v' e1 e2 e3 => ?_⟩, fun y c' e => ?_, I.free, I.freeC, fun p hp => ?_, tracked ⟨oc, hoc, I.freeC x c hc⟩ hs, by simpa using I.len⟩ ⟨c, hs, .inr hc⟩
    · exact (hs.2 b (Nat.ne_of_lt (Nat.lt_of_lt_of_le (Heap.lt_size e) (I.ok.cab x c hfn hc)))).trans (I.base.keep b o e n hb hx)
    · obtain ⟨sl, e1⟩ := I.base.slot b o e n hb hx
      exact ⟨sl, (hs.2 b (Nat.ne_of_lt (Nat.lt_of_lt_of_le (Heap.lt_size e) (I.ok.cab x c hfn hc)))).trans e1⟩
    · obtain ⟨o', e1⟩ := I.base.there b o e hx
      exact ⟨o', (hs.2 b (Nat.ne_of_lt (Nat.lt_of_lt_of_le (Heap.lt_size e) (I.ok.cab x c hfn hc)))).trans e1⟩
    · by_cases hj : j = i
      · subst hj
        rw [hi] at e1; cases e1
        rw [List.getElem?_set_self hiσ] at e2
        cases e2
        exact ⟨u, r, .inr ⟨.inl hk, c, hc, hc'⟩⟩
      · rw [List.getElem?_set_ne (Ne.symm hj)] at e2
        obtain ⟨u', r', q⟩ := hl j y v' e1 e2 e3
        refine ⟨u', r', ?_⟩
        rcases q with q | ⟨k, c', e, z'⟩
        · exact .inl q
        · refine .inr ⟨k, c', e, z'.sameBut hs ?_⟩
          rintro rfl
          exact hj (nodup_ix hN e1 (I.ok.inj _ _ _ e hc ▸ hi))
    · by_cases hcc : c' = c
      · subst hcc; exact ⟨_, hc'⟩
      · obtain ⟨w2, z2⟩ := I.cell y c' e
        exact ⟨w2, z2.sameBut hs hcc⟩
    · obtain ⟨e, n, ne, nf, d⟩ := I.pin p hp
      refine ⟨(hs.2 p.1 ?_).trans e, n, ne, nf, d⟩
      intro q
      rw [q, hoc] at e
      have q' : oc = p.2 := Option.some.inj e
      exact d w' (by rw [← q']; exact hocd)
theorem store_ok {M : Model} {A : Around} {E : Value → Shared → Prop} {i : Nat} {x : Str} {v : V} {u : Value} {Q : Unit → Shared → Prop} (I : Inv X pins σ H s) (hN : X.N.Nodup) (hi : X.N[i]? = some x) (hx : Loc X.env.scope x) (r : RelV v u)
    (h : ∀ s', Inv X pins (σ.set i (some v)) H s' → Q () s') (hf : X.fn x = true ∨ X.env.scope.names.lookup x = some .local := by first | exact .inl rfl | exact .inr rfl | assumption) : wpAny M A (storeName X.env x u) Q E s :=
  store_ok2 I hN hi hx r (fun s' I' _ => h s' I') hf
/-- behind a call or a block, the state as it is -/
theorem Inv.call' {s' : Shared} {ch : List Addr} (I : Inv X pins σ H s) (ho : s'.os = s.os) (u : Un (frs X.stack) ch H H' s.heap s'.heap) (hok : HOk X.prog X.w H' s'.heap) (hg : AllBare s'.gens)
    (hch : ∀ b ∈ ch, (b ∈ X.ex ∨ X.s₀.heap.objs.size ≤ b) ∧ b ≠ X.env.locals ∧ (∀ x c, X.env.cells.lookup x = some c → c ≠ b) ∧ ∀ p ∈ X.pn ++ pins, p.1 ≠ b) : Inv X pins σ H' s' := by
  obtain ⟨h', g', d', t', o'⟩ := s'
  have e : o' = s.os := ho
  subst e
  exact I.call (g' := g') (t' := t') (d' := d') u hok hg hch
end

/-! ### the judgements -/
/-- an exception: its class, its own dict's address (where it has one), the abstract heap behind it -/
abbrev XK := Value → Option Addr → Hp → Prop
abbrev St := List (Option V)
abbrev VK := V → Hp → Prop
/-- an expression's reading; a test's; an argument list's -/
abbrev TE := St → Hp → VK → Prop
abbrev TT := St → Hp → (Bool → Hp → Prop) → Prop
abbrev TA := St → Hp → (List V → Hp → Prop) → Prop
/-- what is wanted behind a statement -/
structure Ends where
  nx : St → Hp → Prop
  rt : VK
  bk : St → Hp → Prop := fun _ _ => False
  ct : St → Hp → Prop := fun _ _ => False
abbrev TS := Ends → St → Hp → Prop

def EP (X : Cx) (pins : List (Addr × Obj)) (σ : St) (Q : VK) (u : Value) (s' : Shared) : Prop := ∃ v H', Inv X pins σ H' s' ∧ RelV v u ∧ Q v H'
def TP (X : Cx) (pins : List (Addr × Obj)) (σ : St) (Q : Bool → Hp → Prop) (b : Bool) (s' : Shared) : Prop := ∃ H', Inv X pins σ H' s' ∧ Q b H'
def AP (X : Cx) (pins : List (Addr × Obj)) (σ : St) (Q : List V → Hp → Prop) (us : List Value) (s' : Shared) : Prop := ∃ vs H', Inv X pins σ H' s' ∧ Vals vs us ∧ Q vs H'
def SP (X : Cx) (pins : List (Addr × Obj)) (D : Ends) (f : Flow) (s' : Shared) : Prop :=
  match f with
  | .next => ∃ σ' H', Inv X pins σ' H' s' ∧ D.nx σ' H'
  | .brk => ∃ σ' H', Inv X pins σ' H' s' ∧ D.bk σ' H'
  | .cont => ∃ σ' H', Inv X pins σ' H' s' ∧ D.ct σ' H'
  | .ret u => ∃ v σ' H', Inv X pins σ' H' s' ∧ RelV v u ∧ D.rt v H'

def PE (X : Cx) (e : Expr) (t : TE) : Prop :=
  ∀ (pins : List (Addr × Obj)) (s : Shared) (σ : St) (H : Hp) (Q : VK), Inv X pins σ H s → t σ H Q → wpAny (model X.prog X.w) X.A (eval e X.env) (EP X pins σ Q) X.xe s
def PT (X : Cx) (e : Expr) (t : TT) : Prop :=
  ∀ (pins : List (Addr × Obj)) (s : Shared) (σ : St) (H : Hp) (Q : Bool → Hp → Prop), Inv X pins σ H s → t σ H Q → wpAny (model X.prog X.w) X.A (isTrue e X.env (eval e X.env)) (TP X pins σ Q) X.xe s
/-- a test whatever its 'whole' is (and, or) -/
def PW (X : Cx) (e : Expr) (t : TT) : Prop :=
  ∀ (whole : Sem Value) (pins : List (Addr × Obj)) (s : Shared) (σ : St) (H : Hp) (Q : Bool → Hp → Prop), Inv X pins σ H s → t σ H Q → wpAny (model X.prog X.w) X.A (isTrue e X.env whole) (TP X pins σ Q) X.xe s
theorem PW.pt {X : Cx} {e : Expr} {t : TT} (h : PW X e t) : PT X e t := h _
/-- an argument list (no star), from the left -/
def PA (X : Cx) (es : List Expr) (t : TA) : Prop :=
  ∀ (pos : Pos) (pins : List (Addr × Obj)) (s : Shared) (σ : St) (H : Hp) (Q : List V → Hp → Prop), Inv X pins σ H s → t σ H Q → wpAny (model X.prog X.w) X.A (spliced (backTo pos (starEach es X.env))) (AP X pins σ Q) X.xe s
def PS (X : Cx) (st : Stmt) (t : TS) : Prop :=
  ∀ (pins : List (Addr × Obj)) (s : Shared) (σ : St) (H : Hp) (D : Ends), Inv X pins σ H s → t D σ H → wpAny (model X.prog X.w) X.A (exec st X.env) (SP X pins D) X.xe s
def PSs (X : Cx) (st : List Stmt) (t : TS) : Prop :=
  ∀ (pins : List (Addr × Obj)) (s : Shared) (σ : St) (H : Hp) (D : Ends), Inv X pins σ H s → t D σ H → wpAny (model X.prog X.w) X.A (execs st X.env) (SP X pins D) X.xe s
/-- weaken the end -/
theorem thn {α : Type} {t : Sem α} {Q Q' : α → Shared → Prop} {M : Model} {A : Around} {E : Value → Shared → Prop} {s : Shared} (h : wpAny M A t Q E s) (hQ : ∀ a s, Q a s → Q' a s) : wpAny M A t Q' E s := wpAny_mono h hQ fun _ _ x => x
end L2

namespace L2
open PySem PySem.Spec PyProof.Rows
section
variable {X : Cx}

/-! ### names and constants -/
def tVar (i : Nat) : TE := fun σ H Q => ∃ v, σ[i]? = some (some v) ∧ Q v H
def tC (v : V) : TE := fun _ H Q => Q v H
theorem pe_var {i : Nat} {x : Str} {pos : Pos} (hN : X.N[i]? = some x) (hv : Vis X.env.scope x) (hd : (x == ("__debug__" : Str)) = false := by decide) (hcd : (x == ("__classdict__" : Str)) = false := by decide) : PE X (.Name x pos) (tVar i) := by
  intro pins s σ H Q I h
  obtain ⟨v, e, h⟩ := h
  obtain ⟨m, hn, hl⟩ := I.loc
  obtain ⟨u, r, l⟩ := hl i x v hN e hv
  have fin : EP X pins σ Q u s := ⟨v, H, I, r, h⟩
  rcases l with ⟨hk, hm⟩ | ⟨hk, c, hc, hcell⟩
  · exact wpAny_Name (wpAny_loadName_local I.ok.kind hk hn hm fin) hd
  · rcases hk with hk | hk
    · exact wpAny_Name (wpAny_loadName_cell I.ok.kind hk hc hcell fin) hd
    · exact wpAny_Name (wpAny_loadName_free I.ok.kind hk hc hcell fin hcd) hd
theorem pe_int {i j pos} : PE X (.Constant (.int i) j pos) (tC (.int i)) := fun _ _ _ H _ I h => wpAny_Constant_int ⟨.int i, H, I.tok _, ⟨_, rfl⟩, h⟩
theorem pe_bl {b j pos} : PE X (.Constant (.bool b) j pos) (tC (.bl b)) := fun _ _ _ H _ I h => Constant_bool ⟨.bl b, H, I, rfl, h⟩
theorem pe_non {j pos} : PE X (.Constant .none j pos) (tC .non) := fun _ _ _ H _ I h => Constant_none ⟨.non, H, I, rfl, h⟩
/-- a global name of the def -/
def Gl (X : Cx) (x : Str) : Prop := X.env.kindOf x = some .globalImplicit
theorem ld_glob {E : Value → Shared → Prop} {pins : List (Addr × Obj)} {s : Shared} {σ : St} {H : Hp} {x : Str} {u : Value} {pos : Pos} {Q : Value → Shared → Prop} (I : Inv X pins σ H s) (hg : Gl X x) (hm : X.mg x = some u) (h : Q u s)
    (hd : (x == ("__debug__" : Str)) = false := by decide) : wpAny (model X.prog X.w) X.A (eval (.Name x pos) X.env) Q E s :=
  Calls.Name_function_global I.ok.kind hg (Calls.loadGlobal_global (by rw [I.ok.glob]; exact I.mod.glob.keeps I.bk) hm h) hd
theorem ld_blt {E : Value → Shared → Prop} {pins : List (Addr × Obj)} {s : Shared} {σ : St} {H : Hp} {x : Str} {u : Value} {pos : Pos} {Q : Value → Shared → Prop} (I : Inv X pins σ H s) (hg : Gl X x) (hm : X.mg x = none) (hv : bootBuiltins x = some u) (h : Q u s)
    (hn : x ≠ "__name__" := by decide) (hd : (x == ("__debug__" : Str)) = false := by decide) : wpAny (model X.prog X.w) X.A (eval (.Name x pos) X.env) Q E s := by
  obtain ⟨mb, h1, h2⟩ := I.mod.blt
  exact Calls.Name_function_global I.ok.kind hg (Calls.loadGlobal_builtin (by rw [I.ok.glob]; exact I.mod.glob.keeps I.bk) hm (by rw [I.ok.blt]; exact h1.keeps I.bk) ((h2 x hn).trans hv) h) hd
theorem pe_bltn {x : Str} {v : V} {u : Value} {pos : Pos} (hg : Gl X x) (hm : X.mg x = none) (hv : bootBuiltins x = some u) (r : RelV v u) (hn : x ≠ "__name__" := by decide) (hd : (x == ("__debug__" : Str)) = false := by decide) : PE X (.Name x pos) (tC v) :=
  fun _ _ _ H _ I h => ld_blt I hg hm hv ⟨v, H, I, r, h⟩ hn hd

/-! ### arithmetic -/
variable {a b : Expr} {ta tb : TE} {pos : Pos}
/-! ### comparisons -/
def PC (X : Cx) (op : CmpOp) (a b : Expr) (t : TE) : Prop :=
  ∀ (pins : List (Addr × Obj)) (s : Shared) (σ : St) (H : Hp) (Q : VK), Inv X pins σ H s → t σ H Q →
    wpAny (model X.prog X.w) X.A (eval a X.env) (fun v s₁ => wpAny (model X.prog X.w) X.A (eval b X.env) (fun u s₂ => wpAny (model X.prog X.w) X.A (compareOp op v u) (EP X pins σ Q) X.xe s₂) X.xe s₁) X.xe s
theorem nobehind (b : Expr) {op : CmpOp} (h : op ≠ .In) (h2 : op ≠ .NotIn) : behindInMarks op b = false := by
  have e1 : (op == CmpOp.In) = false := by cases op <;> first | rfl | exact absurd rfl h
  have e2 : (op == CmpOp.NotIn) = false := by cases op <;> first | rfl | exact absurd rfl h2
  cases b <;> simp [behindInMarks, e1, e2]
/-- a comparison as a value, as a test -/
def tB (t : TE) : TT := fun σ H Q => t σ H fun x H1 => ∃ c, x = .bl c ∧ Q c H1
theorem pt_cmp {op : CmpOp} {t : TE} (h : PC X op a b t) (h1 : behindInMarks op b = false := by first | exact nobehind _ (by decide) (by decide) | rfl) : PT X (.Compare a [op] [b] pos) (tB t) := by
  intro pins s σ H Q I hw
  refine wpAny_isTrue_Compare1 (thn (h pins s σ H _ I hw) fun v s1 h1 => thn h1 fun u s2 h2 => thn h2 fun c s3 ⟨x, H1, I1, r1, q1⟩ => ?_) h1
  obtain ⟨d, rfl, q⟩ := q1
  cases r1
  exact wpAny_truthy_bool ⟨H1, I1, q⟩
/-! ### and, or, not -/
variable {tA tB' : TT} {rest : List Expr}
def tAnd (t u : TT) : TT := fun σ H Q => t σ H fun c H1 => if c = true then u σ H1 Q else Q false H1
def tOr (t u : TT) : TT := fun σ H Q => t σ H fun c H1 => if c = true then Q true H1 else u σ H1 Q
def tNot (t : TT) : TT := fun σ H Q => t σ H fun c H1 => Q (!c) H1
theorem pw_and1 (ha : PT X a tA) : PW X (.BoolOp .And [a] pos) tA := by
  intro wh pins s σ H Q I h
  refine isTrue_and (thn (ha pins s σ H Q I h) fun c s1 e => ?_)
  cases c with
  | true => exact isTrue_and_nil e
  | false => exact e
theorem pw_or1 (ha : PT X a tA) : PW X (.BoolOp .Or [a] pos) tA := by
  intro wh pins s σ H Q I h
  refine isTrue_or (thn (ha pins s σ H Q I h) fun c s1 e => ?_)
  cases c with
  | false => exact isTrue_or_nil e
  | true => exact e
theorem pw_and (ha : PT X a tA) (hb : PW X (.BoolOp .And (b :: rest) pos) tB') : PW X (.BoolOp .And (a :: b :: rest) pos) (tAnd tA tB') := by
  intro wh pins s σ H Q I h
  refine isTrue_and (thn (ha pins s σ H _ I h) fun c s1 ⟨H1, I1, q1⟩ => ?_)
  cases c with
  | true => exact hb wh pins s1 σ H1 Q I1 q1
  | false => exact ⟨H1, I1, q1⟩
theorem pw_or (ha : PT X a tA) (hb : PW X (.BoolOp .Or (b :: rest) pos) tB') : PW X (.BoolOp .Or (a :: b :: rest) pos) (tOr tA tB') := by
  intro wh pins s σ H Q I h
  refine isTrue_or (thn (ha pins s σ H _ I h) fun c s1 ⟨H1, I1, q1⟩ => ?_)
  cases c with
  | true => exact ⟨H1, I1, q1⟩
  | false => exact hb wh pins s1 σ H1 Q I1 q1
theorem pt_not (ha : PT X a tA) : PT X (.UnaryOp .Not a pos) (tNot tA) := by
  intro pins s σ H Q I h
  exact isTrue_not (ha pins s σ H (fun c H1 => Q (!c) H1) I h)
/-- .. as values (bools) -/
def tAndV (ta tb : TE) : TE := fun σ H Q => ta σ H fun x H1 => ∃ c, x = .bl c ∧ if c = true then tb σ H1 Q else Q (.bl false) H1
def tNotV (ta : TE) : TE := fun σ H Q => ta σ H fun x H1 => ∃ c, x = .bl c ∧ Q (.bl (!c)) H1
theorem pe_one {op} {t : TE} (h : PE X a t) : PE X (.BoolOp op [a] pos) t := fun pins s σ H Q I hw => BoolOp_one (h pins s σ H Q I hw)
theorem pe_and (ha : PE X a ta) (hb : PE X (.BoolOp .And (b :: rest) pos) tb) : PE X (.BoolOp .And (a :: b :: rest) pos) (tAndV ta tb) := by
  intro pins s σ H Q I h
  refine BoolOp_and (thn (ha pins s σ H _ I h) fun v s1 ⟨x, H1, I1, r1, q1⟩ => ?_)
  obtain ⟨c, rfl, q1⟩ := q1
  cases r1
  refine wpAny_truthy_bool ?_
  cases c with
  | true => exact hb pins s1 σ H1 Q I1 q1
  | false => exact ⟨.bl false, H1, I1, rfl, q1⟩
theorem pe_not (ha : PE X a ta) : PE X (.UnaryOp .Not a pos) (tNotV ta) := by
  intro pins s σ H Q I h
  refine UnaryOp_ (thn (ha pins s σ H _ I h) fun v s1 ⟨x, H1, I1, r1, q1⟩ => ?_)
  obtain ⟨c, rfl, q1⟩ := q1
  cases r1
  exact not_of (wpAny_truthy_bool ⟨.bl (!c), H1, I1, rfl, q1⟩)
/-- a if t else b -/
def tIf (t : TT) (ta tb : TE) : TE := fun σ H Q => t σ H fun c H1 => if c = true then ta σ H1 Q else tb σ H1 Q
theorem pe_ifExp {c : Expr} (hc : PT X c tA) (ha : PE X a ta) (hb : PE X b tb) : PE X (.IfExp c a b pos) (tIf tA ta tb) := by
  intro pins s σ H Q I h
  refine wpAny_IfExp (thn (hc pins s σ H _ I h) fun d s1 ⟨H1, I1, q1⟩ => ?_)
  cases d with
  | true => exact ha pins s1 σ H1 Q I1 q1
  | false => exact hb pins s1 σ H1 Q I1 q1
end
end L2

namespace L2
open PySem PySem.Spec PyProof.Rows

/-! ### a list, a tuple that is read: tracked, frozen, or an object of the module -/
def SqL (K : PySem.W.Frag) (H : Hp) (a : Addr) (xs : List V) : Prop :=
  Rd H a (.lst xs) ∨
    ∃ (o : Obj) (its : Array Value) (n : Nat), K.lookup a = some o ∧ o.cls = .type "list" ∧ o.dict = none ∧ o.data = .seq its n ∧ its.size ≤ sizeLine ∧ Vals xs its.toList
def SqT (K : PySem.W.Frag) (H : Hp) (a : Addr) (xs : List V) : Prop :=
  Rd H a (.tup xs) ∨
    ∃ (o : Obj) (its : Array Value) (n : Nat), K.lookup a = some o ∧ o.cls = .type "tuple" ∧ o.data = .seq its n ∧ its.size ≤ sizeLine ∧ Vals xs its.toList
def absV : Value → Option V
  | .none => some .non
  | .bool b => some (.bl b)
  | .int i _ => some (.int i)
  | .str x _ => some (.str x)
  | .bytes b _ => some (.byt b)
  | .float b _ => some (.flt b)
  | .ref a => some (.ref a)
  | .type n => some (.ty n)
  | _ => none
theorem RelV.abs {x : V} {u : Value} (r : RelV x u) : absV u = some x := by
  cases x with
  | non => cases r; rfl
  | bl _ => cases r; rfl
  | int _ => obtain ⟨t, rfl⟩ := r; rfl
  | str _ => obtain ⟨t, rfl⟩ := r; rfl
  | byt _ => obtain ⟨t, rfl⟩ := r; rfl
  | flt _ => obtain ⟨t, rfl⟩ := r; rfl
  | ref _ => cases r; rfl
  | ty _ => cases r; rfl
theorem RelV.inj {x y : V} {u : Value} (r : RelV x u) (q : RelV y u) : x = y := Option.some.inj (r.abs.symm.trans q.abs)
theorem Vals.inj : ∀ {xs ys : List V} {us : List Value}, Vals xs us → Vals ys us → xs = ys
  | _, _, _, .nil, .nil => rfl
  | _, _, _, .cons r t, .cons r' t' => by rw [r.inj r', Vals.inj t t']
section
variable {X : Cx} {pins : List (Addr × Obj)} {σ : St} {H : Hp} {s : Shared} {a : Addr} {xs ys : List V}
theorem SqL.of {K : PySem.W.Frag} (h : H a = some (.lst xs)) : SqL K H a xs := .inl (.inl h)
theorem SqT.of {K : PySem.W.Frag} (h : H a = some (.tup xs)) : SqT K H a xs := .inl (.inl h)
theorem Inv.list (I : Inv X pins σ H s) (h : SqL X.K H a xs) : ∃ its : List Value, Vals xs its ∧ PlainL s.heap a its.toArray ∧ xs.length ≤ sizeLine := by
  rcases h with h | ⟨o, its, n, hk, hc, hd, hs, hz, r⟩
  · obtain ⟨z, its, n, r, e⟩ := h.ok I.hok
    exact ⟨its, r, ⟨_, n, e, rfl, rfl, rfl⟩, z⟩
  · refine ⟨its.toList, r, ⟨o, n, I.kIn a o hk, hc, hd, by simpa using hs⟩, ?_⟩
    have e := r.length
    simp only [Array.length_toList] at e
    omega
theorem Inv.tuple (I : Inv X pins σ H s) (h : SqT X.K H a xs) : ∃ its : List Value, Vals xs its ∧ IsTup s.heap a its.toArray ∧ xs.length ≤ sizeLine := by
  rcases h with h | ⟨o, its, n, hk, hc, hs, hz, r⟩
  · obtain ⟨z, its, r, p⟩ := h.ok I.hok
    exact ⟨its, r, p, z⟩
  · refine ⟨its.toList, r, ⟨o, I.kIn a o hk, hc, n, by simpa using hs⟩, ?_⟩
    have e := r.length
    simp only [Array.length_toList] at e
    omega
theorem Inv.list_inj (I : Inv X pins σ H s) (h : SqL X.K H a xs) (h' : SqL X.K H a ys) : xs = ys := by
  obtain ⟨its, r, ⟨o, n, e, _, _, d⟩, _⟩ := I.list h
  obtain ⟨its', r', ⟨o', n', e', _, _, d'⟩, _⟩ := I.list h'
  rw [e] at e'; cases e'
  rw [d] at d'
  injection d' with d1 _
  have : its = its' := by simpa using congrArg Array.toList d1
  subst this
  exact r.inj r'
theorem Inv.tuple_inj (I : Inv X pins σ H s) (h : SqT X.K H a xs) (h' : SqT X.K H a ys) : xs = ys := by
  obtain ⟨its, r, ⟨o, e, _, n, d⟩, _⟩ := I.tuple h
  obtain ⟨its', r', ⟨o', e', _, n', d'⟩, _⟩ := I.tuple h'
  rw [e] at e'; cases e'
  rw [d] at d'
  injection d' with d1 _
  have : its = its' := by simpa using congrArg Array.toList d1
  subst this
  exact r.inj r'
end

/-! ### another wish about exceptions -/
abbrev Cx.wish (X : Cx) (E : Value → Shared → Prop) : Cx := { X with xe := E }
/-- no exception leaves -/
abbrev Cx.nox (X : Cx) : Cx := X.wish fun _ _ => False
theorem Cx.Ok.wish {X : Cx} (ok : X.Ok) (E : Value → Shared → Prop) : (X.wish E).Ok :=
  ⟨ok.mod, ok.kind, ok.glob, ok.blt, ok.above, ok.inj, ok.has, ok.cab, ok.hd, ok.frames, ok.stk, ok.exf, ok.bs, ok.bsz, ok.noex, ok.exfs, ok.funs, ok.frf⟩
theorem Cx.Ok.unwish {X : Cx} {E : Value → Shared → Prop} (ok : (X.wish E).Ok) : X.Ok :=
  ⟨ok.mod, ok.kind, ok.glob, ok.blt, ok.above, ok.inj, ok.has, ok.cab, ok.hd, ok.frames, ok.stk, ok.exf, ok.bs, ok.bsz, ok.noex, ok.exfs, ok.funs, ok.frf⟩
section
variable {X : Cx} {pins : List (Addr × Obj)} {σ : St} {H : Hp} {s : Shared} {E : Value → Shared → Prop}
theorem Inv.wish (I : Inv X pins σ H s) (E : Value → Shared → Prop) : Inv (X.wish E) pins σ H s := ⟨I.ok.wish E, I.os, I.bare, I.base, I.loc, I.cell, I.free, I.freeC, I.pin, I.hok, I.len⟩
theorem Inv.unwish (I : Inv (X.wish E) pins σ H s) : Inv X pins σ H s := ⟨I.ok.unwish, I.os, I.bare, I.base, I.loc, I.cell, I.free, I.freeC, I.pin, I.hok, I.len⟩
theorem SP.unwish {D : Ends} {f : Flow} {s' : Shared} (h : SP (X.wish E) pins D f s') : SP X pins D f s' := by
  cases f with
  | next => obtain ⟨σ', H', I, q⟩ := h; exact ⟨σ', H', I.unwish, q⟩
  | brk => obtain ⟨σ', H', I, q⟩ := h; exact ⟨σ', H', I.unwish, q⟩
  | cont => obtain ⟨σ', H', I, q⟩ := h; exact ⟨σ', H', I.unwish, q⟩
  | ret u => obtain ⟨v, σ', H', I, r, q⟩ := h; exact ⟨v, σ', H', I.unwish, r, q⟩
theorem PSs.nox {st : List Stmt} {t : TS} (h : PSs X.nox st t) : PSs X st t := fun pins s σ H D I hw =>
  wpAny_mono (h pins s σ H D (I.wish _) hw) (fun _ _ q => q.unwish) fun _ _ z => False.elim z
end

/-! ### blocks and small statements -/
section
variable {X : Cx} {st : Stmt} {rest : List Stmt} {t u : TS} {e : Expr} {te : TE} {pos : Pos}
def tNext : TS := fun D σ H => D.nx σ H
def tSeq (t u : TS) : TS := fun D σ H => t { D with nx := u D } σ H
theorem pss_nil : PSs X [] tNext := fun _ _ σ H _ I h => wpAny_execs_nil ⟨σ, H, I, h⟩
theorem pss_cons (h1 : PS X st t) (h2 : PSs X rest u) : PSs X (st :: rest) (tSeq t u) := by
  intro pins s σ H D I h
  refine wpAny_execs_cons (thn (h1 pins s σ H { D with nx := u D } I h) fun f s1 q => ?_)
  cases f with
  | next =>
    obtain ⟨σ', H', I', q⟩ := q
    exact h2 pins s1 σ' H' D I' q
  | ret v => exact q
  | brk => exact q
  | cont => exact q
theorem pss_one (h1 : PS X st t) : PSs X [st] t := by
  intro pins s σ H D I h
  refine wpAny_execs_cons (thn (h1 pins s σ H D I h) fun f s1 q => ?_)
  cases f with
  | next => exact wpAny_execs_nil q
  | ret v => exact q
  | brk => exact q
  | cont => exact q
/-- in a def's body nothing is shown -/
theorem Inv.quiet {pins : List (Addr × Obj)} {σ : St} {H : Hp} {s : Shared} (I : Inv X pins σ H s) : interactive X.env = false := by simp [interactive, I.ok.kind]
/-- an expression whose value is dropped -/
def tDrop (te : TE) : TS := fun D σ H => te σ H fun _ H1 => D.nx σ H1
theorem ps_expr (he : PE X e te) (hs : swapsWith e none pos.line X.env = pure false := by rfl) : PS X (.Expr e pos) (tDrop te) := by
  intro pins s σ H D I h
  exact wpAny_Expr_any (thn (he pins s σ H _ I h) fun v s1 ⟨x, H1, I1, r1, q1⟩ => ⟨σ, H1, I1, q1⟩) I.quiet hs
def tRet (te : TE) : TS := fun D σ H => te σ H D.rt
theorem ps_ret (he : PE X e te) : PS X (.Return (some e) pos) (tRet te) := by
  intro pins s σ H D I h
  exact wpAny_Return_some (thn (he pins s σ H _ I h) fun v s1 ⟨x, H1, I1, r1, q1⟩ => ⟨x, σ, H1, I1, r1, q1⟩)
def tIfS (c : TT) (t u : TS) : TS := fun D σ H => c σ H fun b H1 => if b = true then t D σ H1 else u D σ H1
theorem ps_if {c : Expr} {a b : List Stmt} {tc : TT} (hc : PT X c tc) (ha : PSs X a t) (hb : PSs X b u) : PS X (.If c a b pos) (tIfS tc t u) := by
  intro pins s σ H D I h
  refine wpAny_If (thn (hc pins s σ H _ I h) fun d s1 ⟨H1, I1, q1⟩ => ?_)
  cases d with
  | true => exact ha pins s1 σ H1 D I1 q1
  | false => exact hb pins s1 σ H1 D I1 q1
end

/-! ### targets -/
abbrev TG := V → St → Hp → (St → Hp → Prop) → Prop
abbrev TGs := List V → St → Hp → (St → Hp → Prop) → Prop
def PG (X : Cx) (target : Expr) (t : TG) : Prop :=
  ∀ (pins : List (Addr × Obj)) (s : Shared) (σ : St) (H : Hp) (v : V) (u : Value) (Q : St → Hp → Prop), Inv X pins σ H s → RelV v u → t v σ H Q →
    wpAny (model X.prog X.w) X.A (assign target X.env u) (fun _ s' => ∃ σ' H', Inv X pins σ' H' s' ∧ Q σ' H') X.xe s
/-- several targets, one after another -/
def PGs (X : Cx) (ts : List Expr) (t : TGs) : Prop :=
  ∀ (pins : List (Addr × Obj)) (s : Shared) (σ : St) (H : Hp) (vs : List V) (us : List Value) (Q : St → Hp → Prop), Inv X pins σ H s → Vals vs us → t vs σ H Q →
    wpAny (model X.prog X.w) X.A (assignInOrder ((assignEach ts X.env).map (·.2)) us) (fun _ s' => ∃ σ' H', Inv X pins σ' H' s' ∧ Q σ' H') X.xe s
/-- o[i] = v, by values -/
abbrev TSet := V → V → V → Hp → (Hp → Prop) → Prop
def PSet (X : Cx) (t : TSet) : Prop :=
  ∀ (pins : List (Addr × Obj)) (s : Shared) (σ : St) (H : Hp) (o i v : V) (ov iv u : Value) (Q : Hp → Prop), Inv X pins σ H s → RelV o ov → RelV i iv → RelV v u → t o i v H Q →
    wpAny (model X.prog X.w) X.A (setItem ov iv u) (fun _ s' => ∃ H', Inv X pins σ H' s' ∧ Q H') X.xe s
section
variable {X : Cx} {pos : Pos}
def gName (i : Nat) : TG := fun v σ H Q => Q (σ.set i (some v)) H
theorem pg_name {i : Nat} {x : Str} (hN : X.N.Nodup) (hi : X.N[i]? = some x) (hx : Loc X.env.scope x) (hf : X.fn x = true ∨ X.env.scope.names.lookup x = some .local := by first | exact .inl rfl | exact .inr rfl | assumption) : PG X (.Name x pos) (gName i) := by
  intro pins s σ H v u Q I r h
  exact wpAny_assign_Name (store_ok I hN hi hx r (fun s' I' => ⟨_, H, I', h⟩) hf)
def gNil : TGs := fun vs σ H Q => vs = [] ∧ Q σ H
def gCons (t : TG) (u : TGs) : TGs := fun vs σ H Q => ∃ v r, vs = v :: r ∧ t v σ H fun σ' H' => u r σ' H' Q
theorem pgs_nil : PGs X [] gNil := by
  intro pins s σ H vs us Q I r h
  obtain ⟨e, h⟩ := h
  subst e
  cases r
  exact assignInOrder_nil ⟨σ, H, I, h⟩
theorem pgs_cons {e : Expr} {es : List Expr} {t : TG} {u : TGs} (h1 : PG X e t) (h2 : PGs X es u)
    (hs : (assignEach (e :: es) X.env).map (·.2) = assign e X.env :: (assignEach es X.env).map (·.2) := by rfl) : PGs X (e :: es) (gCons t u) := by
  intro pins s σ H vs us Q I r h
  obtain ⟨v, vr, e1, h⟩ := h
  subst e1
  cases r with
  | cons r rr =>
    rw [hs]
    refine assignInOrder_cons (thn (h1 pins s σ H _ _ _ I r h) fun _ s1 ⟨σ1, H1, I1, q1⟩ => ?_)
    exact h2 pins s1 σ1 H1 _ _ Q I1 rr q1
/-- (a, b, ..) = a tuple of that length -/
def gTup (K : PySem.W.Frag) (n : Nat) (t : TGs) : TG := fun v σ H Q => ∃ a xs, v = .ref a ∧ SqT K H a xs ∧ xs.length = n ∧ t xs σ H Q
theorem pg_tup {es : List Expr} {k : Nat} {t : TGs} {n : Nat} (hc : X.calm = true) (h : PGs X es t)
    (hn : (assignEach es X.env).length = n := by rfl) (hst : (assignEach es X.env).findIdx? (·.1) = none := by rfl) : PG X (.Tuple es k pos) (gTup X.K n t) := by
  intro pins s σ H v u Q I r hw
  obtain ⟨a, xs, e1, hq, hl, hw⟩ := hw
  subst e1
  cases r
  obtain ⟨its, rv, ht, hz⟩ := I.tuple hq
  refine assign_Tuple_tuple (I.ok.hd hc) ht (by simp [hn, ← hl, rv.length]) hst fun h' hx => ?_
  have I1 : Inv X pins σ H { s with heap := h' } := I.kept (t' := s.toks) fun b o e => hx b o (Nat.ne_of_lt (Heap.lt_size e)) e
  exact h pins _ σ H xs _ Q I1 (by simpa using rv) hw
/-- o[i] = .. -/
def gSub (to ti : TE) (t : TSet) : TG := fun v σ H Q => to σ H fun o H1 => ti σ H1 fun i H2 => t o i v H2 fun H3 => Q σ H3
theorem pg_sub {o i : Expr} {to ti : TE} {t : TSet} (ho : PE X o to) (hi : PE X i ti) (hs : PSet X t)
    (ha : ∀ v, assign (.Subscript o i pos) X.env v = (do
      let ov ← holding [v] (eval o X.env)
      let iv ← holding [v, ov] (eval i X.env)
      standAt pos
      holding [v, ov, iv] (setItem ov iv v)
      release [v, ov, iv] []) := by intro _; rfl) : PG X (.Subscript o i pos) (gSub to ti t) := by
  intro pins s σ H v u Q I r h
  rw [ha]
  refine wpAny_bind (wpAny_holding (thn (ho pins s σ H _ I h) fun ov s1 ⟨x, H1, I1, r1, q1⟩ => ?_))
  refine wpAny_bind (wpAny_holding (thn (hi pins s1 σ H1 _ I1 q1) fun iv s2 ⟨y, H2, I2, r2, q2⟩ => ?_))
  refine wpAny_bind (wpAny_standAt (wpAny_bind (wpAny_holding (thn (hs pins s2 σ H2 x y v ov iv u _ I2 r1 r2 r q2) fun _ s3 ⟨H3, I3, q3⟩ => ?_))))
  exact wpAny_release ⟨σ, H3, I3, q3⟩
/-- target = value -/
def tAsg (te : TE) (g : TG) : TS := fun D σ H => te σ H fun x H1 => g x σ H1 D.nx
theorem ps_asg {tg e : Expr} {te : TE} {g : TG} (he : PE X e te) (hg : PG X tg g) (hs : swapsWithSole [tg] e pos.line X.env = pure false := by rfl) (hw : swappedStores [tg] e X.env = pure none := by rfl)
    (h1 : (assignEach [tg] X.env).map (·.2) = [assign tg X.env] := by rfl) : PS X (.Assign [tg] e pos) (tAsg te g) := by
  intro pins s σ H D I h
  refine wpAny_Assign_stores (thn (he pins s σ H _ I h) fun v s1 ⟨x, H1, I1, r1, q1⟩ => ?_) hs hw
  rw [h1]
  exact thn (hg pins s1 σ H1 x v _ I1 r1 q1) fun _ s2 q => q
/-- name = value -/
theorem ps_set {i : Nat} {x : Str} {e : Expr} {te : TE} {pos' : Pos} (hN : X.N.Nodup) (hi : X.N[i]? = some x) (hx : Loc X.env.scope x) (he : PE X e te) (hs : swapsWith e (some (.Name x pos')) pos.line X.env = pure false := by rfl) (hf : X.fn x = true ∨ X.env.scope.names.lookup x = some .local := by first | exact .inl rfl | exact .inr rfl | assumption) :
    PS X (.Assign [.Name x pos'] e pos) (tAsg te (gName i)) := by
  intro pins s σ H D I h
  refine wpAny_Assign_Name (thn (he pins s σ H _ I h) fun v s1 ⟨y, H1, I1, r1, q1⟩ => ?_) hs
  exact store_ok I1 hN hi hx r1 (fun s2 I2 => ⟨_, H1, I2, q1⟩) hf
end

/-! ### while -/
section
end

/-! ### what a loop or a comprehension walks -/
/-- at turn i: it yields x (the heap may grow), or it stops -/
structure It where
  go : Nat → Hp → Prop
  yld : Nat → Hp → V → Hp → Prop
  stop : Nat → Hp → Prop
/-- the iterator's own objects may turn: they are not the frame's, not pinned, younger than the entry (or a comprehension's own) -/
def FpOk (X : Cx) (pins : List (Addr × Obj)) (H : Hp) (b : Addr) : Prop :=
  H b = none ∧ b ≠ X.env.locals ∧ b ∉ X.fs ∧ (b ∈ X.ex ∨ X.s₀.heap.objs.size ≤ b) ∧ (∀ x c, X.env.cells.lookup x = some c → c ≠ b) ∧ ∀ p ∈ X.pn ++ pins, p.1 ≠ b
theorem Inv.fpOk {X : Cx} {pins : List (Addr × Obj)} {σ : St} {H H' : Hp} {s : Shared} {b : Addr} (I : Inv X pins σ H s) (hb : s.heap.objs.size ≤ b) (hn : H' b = none) : FpOk X pins H' b := by
  refine ⟨hn, Nat.ne_of_gt (Nat.lt_of_lt_of_le I.lt hb), I.nofs hb, .inr (Nat.le_trans I.sz hb), fun x c e z => ?_, fun p hp z => ?_⟩
  · obtain ⟨v, q⟩ := I.cell x c e
    exact absurd (Nat.lt_of_lt_of_le q.lt (by rw [z]; exact hb)) (Nat.lt_irrefl _)
  · exact absurd (Nat.lt_of_lt_of_le (Heap.lt_size (I.pin p hp).1) (by rw [z]; exact hb)) (Nat.lt_irrefl _)
structure Turn (P : Program) (w : World) (K : PySem.W.Frag) (tg : Expr) (J : It) (fp : List Addr) (it : Addr) (tn : Nat → Heap → Prop) : Prop where
  mem : it ∈ fp
  obj : ∀ i h, tn i h → ∀ b ∈ fp, ∃ o, h.get? b = some o ∧ ∀ v, o.data ≠ .cell v
  keep : ∀ i h h', tn i h → (∀ b ∈ fp, ∀ o, h.get? b = some o → h'.get? b = some o) → tn i h'
  item : ∀ (X : Cx), X.prog = P → X.w = w → X.K = K → X.calm = true → ∀ (i : Nat) (pins : List (Addr × Obj)) (s : Shared) (σ : St) (H : Hp) (E : Value → Shared → Prop), Inv X pins σ H s → (∀ b ∈ fp, FpOk X pins H b) → tn i s.heap → J.go i H →
    wpAny (model P w) X.A (pyNext (.ref it)) (fun r s1 => ∃ u, r = some u ∧
      wpAny (model P w) X.A (letOwnedTupleGo tg (.ref it) u) (fun _ s2 => ∃ x H', Inv X pins σ H' s2 ∧ RelV x u ∧ J.yld i H x H' ∧ tn (i + 1) s2.heap ∧ ∀ b ∈ fp, H' b = none) E s1) E s
  done : ∀ (X : Cx), X.prog = P → X.w = w → X.K = K → X.calm = true → ∀ (i : Nat) (pins : List (Addr × Obj)) (s : Shared) (σ : St) (H : Hp) (E : Value → Shared → Prop), Inv X pins σ H s → (∀ b ∈ fp, FpOk X pins H b) → tn i s.heap → J.stop i H →
    wpAny (model P w) X.A (pyNext (.ref it)) (fun r s1 => r = none ∧ Inv X pins σ H s1) E s
  self : ∀ (A : Around) (i : Nat) (s : Shared) (Q : Value → Shared → Prop) (E : Value → Shared → Prop), tn i s.heap → Q (.ref it) s → wpAny (model P w) A (pyIter (.ref it)) Q E s
abbrev TI := St → Hp → (It → Hp → Prop) → Prop
/-- an iterator has come -/
def PIE (X : Cx) (pins : List (Addr × Obj)) (σ : St) (tg : Expr) (R : It → Hp → Prop) (itv : Value) (s2 : Shared) : Prop :=
  ∃ (it : Addr) (fp : List Addr) (tn : Nat → Heap → Prop) (J : It) (H' : Hp), itv = .ref it ∧ Inv X pins σ H' s2 ∧ Turn X.prog X.w X.K tg J fp it tn ∧ tn 0 s2.heap ∧ (∀ b ∈ fp, FpOk X pins H' b) ∧ R J H'
def PI (X : Cx) (tg iter : Expr) (wi : TI) : Prop :=
  ∀ (pins : List (Addr × Obj)) (s : Shared) (σ : St) (H : Hp) (R : It → Hp → Prop), Inv X pins σ H s → wi σ H R →
    wpAny (model X.prog X.w) X.A (eval iter X.env) (fun v s1 => wpAny (model X.prog X.w) X.A (pyIter v) (PIE X pins σ tg R) X.xe s1) X.xe s

/-- the step ahead of the store is nothing for an iterator that keeps no tuple -/
theorem go_of {M : Model} {A : Around} {E : Value → Shared → Prop} {s : Shared} {tg : Expr} {it : Addr} {u : Value} {o : Obj} {n : String} {vs : Array Value} {Q : Unit → Shared → Prop} (ho : s.heap.get? it = some o) (hc : o.cls = .type n) (hd : o.data = .fields vs)
    (hn : ["enumerate", "zip", "dict_itemiterator", "dict_reverseitemiterator", "odict_iterator", "itertools.zip_longest", "itertools.pairwise"].contains n = false) (hQ : Q () s) : wpAny M A (letOwnedTupleGo tg (.ref it) u) Q E s := by
  unfold letOwnedTupleGo
  cases tg <;> first
    | exact wpAny_pure hQ
    | (cases u <;> first
        | exact wpAny_pure hQ
        | (refine wpAny_bind (wpAny_load ho ?_)
           rw [hc, hd]
           show wpAny M A (if (["enumerate", "zip", "dict_itemiterator", "dict_reverseitemiterator", "odict_iterator", "itertools.zip_longest", "itertools.pairwise"].contains n && vs[0]? == some (rawInt _)) = true then _ else _) Q E s
           rw [if_neg (by intro h; rw [hn, Bool.false_and] at h; cases h)]
           exact wpAny_pure hQ))

/-- the list at a, as it stands at each turn (a loop may append to it) -/
def Itl (K : PySem.W.Frag) (a : Addr) : It :=
  ⟨fun i H => ∃ xs x, SqL K H a xs ∧ xs[i]? = some x, fun i H x H' => H' = H ∧ ∀ xs, SqL K H a xs → xs[i]? = some x, fun i H => ∃ xs, SqL K H a xs ∧ xs.length ≤ i⟩
def Itt (K : PySem.W.Frag) (a : Addr) : It :=
  ⟨fun i H => ∃ xs x, SqT K H a xs ∧ xs[i]? = some x, fun i H x H' => H' = H ∧ ∀ xs, SqT K H a xs → xs[i]? = some x, fun i H => ∃ xs, SqT K H a xs ∧ xs.length ≤ i⟩
/-- lo, lo + 1, .. (n of them) -/
def Itr (lo : Int) (n : Nat) : It := ⟨fun i _ => i < n, fun i H x H' => H' = H ∧ x = .int (lo + i), fun i _ => n ≤ i⟩
theorem turn_list {P : Program} {w : World} {K : PySem.W.Frag} {tg : Expr} (a it : Addr) : Turn P w K tg (Itl K a) [it] it (fun i h => h.IsListIter it a i) where
  mem := by simp
  obj := fun i h st b hb => by
    have e : b = it := by simpa using hb
    subst e
    obtain ⟨o, e, c, d⟩ := st
    exact ⟨o, e, fun v z => by rw [d] at z; cases z⟩
  keep := fun i h h' st k => st.at fun o e => k it (by simp) o e
  item := by
    intro X hP hw hK hc i pins s σ H E I hf st hg
    subst hP hw hK
    obtain ⟨xs, x, hq, hx⟩ := hg
    obtain ⟨its, rv, p, hz⟩ := I.list hq
    obtain ⟨u, hu, ru⟩ := rv.get hx
    obtain ⟨f0, f1, f2, f3, f4, f5⟩ := hf it (by simp)
    refine wpAny_pyNext_list_item st p.isList (x := u) (by simpa using hu) fun h' st' sb => ?_
    have I1 : Inv X pins σ H { s with heap := h' } := I.turned (t' := s.toks) (fun b o hb e => (sb.2 b hb).trans e) f0 f1 f3 f4 f5
    obtain ⟨o, e, c, d⟩ := id st'
    exact ⟨u, rfl, go_of (s := { s with heap := h' }) e c d (by decide) ⟨x, H, I1, ru, ⟨rfl, fun ys hy => by rw [I.list_inj hy hq]; exact hx⟩, st', fun b hb => (hf b hb).1⟩⟩
  done := by
    intro X hP hw hK hc i pins s σ H E I hf st hg
    subst hP hw hK
    obtain ⟨xs, hq, hx⟩ := hg
    obtain ⟨its, rv, p, hz⟩ := I.list hq
    obtain ⟨f0, f1, f2, f3, f4, f5⟩ := hf it (by simp)
    have hl := rv.length
    exact wpAny_pyNext_list_end (I.ok.hd hc) st p.isList (by simp; omega) fun h' eb => ⟨rfl, I.turned (t' := s.toks) (fun b o hb e => eb b o hb e) f0 f1 f3 f4 f5⟩
  self := fun _ _ _ _ _ st h => wpAny_pyIter_listiter st h
theorem turn_tuple {P : Program} {w : World} {K : PySem.W.Frag} {tg : Expr} (a it : Addr) : Turn P w K tg (Itt K a) [it] it (fun i h => h.IsTupleIter it a i) where
  mem := by simp
  obj := fun i h st b hb => by
    have e : b = it := by simpa using hb
    subst e
    obtain ⟨o, e, c, d⟩ := st
    exact ⟨o, e, fun v z => by rw [d] at z; cases z⟩
  keep := fun i h h' st k => st.at fun o e => k it (by simp) o e
  item := by
    intro X hP hw hK hc i pins s σ H E I hf st hg
    subst hP hw hK
    obtain ⟨xs, x, hq, hx⟩ := hg
    obtain ⟨its, rv, p, hz⟩ := I.tuple hq
    obtain ⟨u, hu, ru⟩ := rv.get hx
    obtain ⟨f0, f1, f2, f3, f4, f5⟩ := hf it (by simp)
    refine wpAny_pyNext_tuple_item st (show s.heap.IsTuple a its.toArray from p) (x := u) (by simpa using hu) fun h' st' sb => ?_
    have I1 : Inv X pins σ H { s with heap := h' } := I.turned (t' := s.toks) (fun b o hb e => (sb.2 b hb).trans e) f0 f1 f3 f4 f5
    obtain ⟨o, e, c, d⟩ := id st'
    exact ⟨u, rfl, go_of (s := { s with heap := h' }) e c d (by decide) ⟨x, H, I1, ru, ⟨rfl, fun ys hy => by rw [I.tuple_inj hy hq]; exact hx⟩, st', fun b hb => (hf b hb).1⟩⟩
  done := by
    intro X hP hw hK hc i pins s σ H E I hf st hg
    subst hP hw hK
    obtain ⟨xs, hq, hx⟩ := hg
    obtain ⟨its, rv, p, hz⟩ := I.tuple hq
    obtain ⟨f0, f1, f2, f3, f4, f5⟩ := hf it (by simp)
    have hl := rv.length
    exact wpAny_pyNext_tuple_end (I.ok.hd hc) st (show s.heap.IsTuple a its.toArray from p) (by simp; omega) fun h' eb => ⟨rfl, I.turned (t' := s.toks) (fun b o hb e => eb b o hb e) f0 f1 f3 f4 f5⟩
  self := fun _ _ _ _ _ st h => wpAny_pyIter_tupleiter st h
theorem turn_range {P : Program} {w : World} {K : PySem.W.Frag} {tg : Expr} (it : Addr) (lo : Int) (n : Nat) : Turn P w K tg (Itr lo n) [it] it (fun i h => IsRangeIter h it (lo + (i : Nat) * 1) ((n : Int) - (i : Nat)) 1) where
  mem := by simp
  obj := fun i h st b hb => by
    have e : b = it := by simpa using hb
    subst e
    exact ⟨_, st, fun v z => by
      have z' : Data.fields _ = Data.cell v := z
      cases z'⟩
  keep := fun i h h' st k => k it (by simp) _ st
  item := by
    intro X hP hw hK hc i pins s σ H E I hf st hg
    subst hP hw hK
    obtain ⟨f0, f1, f2, f3, f4, f5⟩ := hf it (by simp)
    have W := Walks.range (prog := X.prog) (w := X.w) (I.ok.hd hc) it lo 1 n
    refine W.item i s _ _ hg st fun v h' tk hv st' kk => ?_
    obtain ⟨t, rfl⟩ := hv
    have I1 : Inv X pins σ H { s with heap := h', toks := tk } := I.turned (fun b o hb e => kk b o (by simpa using hb) e) f0 f1 f3 f4 f5
    refine ⟨_, rfl, go_of (s := { s with heap := h', toks := tk }) (n := "range_iterator") st' rfl rfl (by decide) ⟨.int (lo + i), H, I1, ⟨t, ?_⟩, ⟨rfl, rfl⟩, st', fun b hb => (hf b hb).1⟩⟩
    rw [Int.mul_one]
  done := by
    intro X hP hw hK hc i pins s σ H E I hf st hg
    subst hP hw hK
    obtain ⟨f0, f1, f2, f3, f4, f5⟩ := hf it (by simp)
    exact wpAny_pyNext_range_end (I.ok.hd hc) st (by have : n ≤ i := hg; omega) fun h' eb => ⟨rfl, I.turned (t' := s.toks) (fun b o hb e => eb b o hb e) f0 f1 f3 f4 f5⟩
  self := fun _ _ _ _ _ st h => wpAny_pyIter_rangeiter st h
end L2

namespace L2
open PySem PySem.Spec PyProof.Rows
section
variable {X : Cx} {tg : Expr}
def iList (K : PySem.W.Frag) (tl : TE) : TI := fun σ H R => tl σ H fun x H1 => ∃ a, x = .ref a ∧ (∃ xs, SqL K H1 a xs) ∧ R (Itl K a) H1
def iTup (K : PySem.W.Frag) (tl : TE) : TI := fun σ H R => tl σ H fun x H1 => ∃ a, x = .ref a ∧ (∃ xs, SqT K H1 a xs) ∧ R (Itt K a) H1
theorem pi_list {l : Expr} {tl : TE} (hl : PE X l tl) : PI X tg l (iList X.K tl) := by
  intro pins s σ H R I h
  refine thn (hl pins s σ H _ I h) fun v s1 ⟨x, H1, I1, r1, q1⟩ => ?_
  obtain ⟨a, e, ⟨xs, hq⟩, q⟩ := q1
  subst e
  cases r1
  obtain ⟨its, rv, p, hz⟩ := I1.list hq
  refine wpAny_pyIter_list p.isList ?_
  refine ⟨s1.heap.objs.size, [s1.heap.objs.size], _, _, H1, rfl, I1.kept (t' := s1.toks) fun b o e => Heap.get?_push_of_some _ e, turn_list a _, ⟨_, Heap.get?_push_size _ rfl, rfl, rfl⟩, fun b hb => ?_, q⟩
  have e : b = s1.heap.objs.size := by simpa using hb
  subst e
  exact I1.fpOk (Nat.le_refl _) (I1.hok.fresh (Nat.le_refl _))
theorem pi_tup {l : Expr} {tl : TE} (hl : PE X l tl) : PI X tg l (iTup X.K tl) := by
  intro pins s σ H R I h
  refine thn (hl pins s σ H _ I h) fun v s1 ⟨x, H1, I1, r1, q1⟩ => ?_
  obtain ⟨a, e, ⟨xs, hq⟩, q⟩ := q1
  subst e
  cases r1
  obtain ⟨its, rv, p, hz⟩ := I1.tuple hq
  refine wpAny_pyIter_tuple (show s1.heap.IsTuple a its.toArray from p) ?_
  refine ⟨s1.heap.objs.size, [s1.heap.objs.size], _, _, H1, rfl, I1.kept (t' := s1.toks) fun b o e => Heap.get?_push_of_some _ e, turn_tuple a _, ⟨_, Heap.get?_push_size _ rfl, rfl, rfl⟩, fun b hb => ?_, q⟩
  have e : b = s1.heap.objs.size := by simpa using hb
  subst e
  exact I1.fpOk (Nat.le_refl _) (I1.hok.fresh (Nat.le_refl _))
/-- a range object just made, walked -/
theorem range_it {pins : List (Addr × Obj)} {σ : St} {H : Hp} {s : Shared} {R : It → Hp → Prop} {E : Value → Shared → Prop} {lo hi : Int} {t u v : Tok} {tk : Nat} (I : Inv X pins σ H s) (h1 : -(2 ^ 62) ≤ lo) (h2 : lo < 2 ^ 62) (h3 : -(2 ^ 62) ≤ hi) (h4 : hi < 2 ^ 62)
    (q : R (Itr lo (hi - lo).toNat) H) : wpAny (model X.prog X.w) X.A (pyIter (.ref s.heap.objs.size)) (PIE X pins σ tg R) E { s with heap := s.heap.push { cls := .type "range", data := .fields #[.int lo t, .int hi u, .int 1 v] }, toks := tk } := by
  refine wpAny_pyIter_range (IsRange.new ..) (small_one h1 h2 h3 h4) ?_
  have I1 : Inv X pins σ H { s with heap := s.heap.push { cls := .type "range", data := .fields #[.int lo t, .int hi u, .int 1 v] }, toks := tk } := I.kept fun b o e => Heap.get?_push_of_some _ e
  refine ⟨(s.heap.push { cls := .type "range", data := .fields #[.int lo t, .int hi u, .int 1 v] }).objs.size, [(s.heap.push { cls := .type "range", data := .fields #[.int lo t, .int hi u, .int 1 v] }).objs.size], _, _, H, rfl,
    I1.kept (t' := tk) fun b o e => Heap.get?_push_of_some _ e, turn_range _ lo (hi - lo).toNat, ?_, fun b hb => ?_, q⟩
  · have e1 : lo + ((0 : Nat) : Int) * 1 = lo := by simp
    have e2 : (((hi - lo).toNat : Nat) : Int) - ((0 : Nat) : Int) = Builtin.Range.rangeSize lo hi 1 := by rw [rangeSize_one]; split <;> omega
    show IsRangeIter _ _ (lo + ((0 : Nat) : Int) * 1) ((((hi - lo).toNat : Nat) : Int) - ((0 : Nat) : Int)) 1
    rw [e1, e2]
    exact Heap.get?_push_size _ rfl
  · have e : b = (s.heap.push { cls := .type "range", data := .fields #[.int lo t, .int hi u, .int 1 v] }).objs.size := by simpa using hb
    subst e
    exact I1.fpOk (Nat.le_refl _) (I1.hok.fresh (Nat.le_refl _))
def iRng1 (ta : TA) : TI := fun σ H R => ta σ H fun vs H1 => ∃ j : Int, vs = [.int j] ∧ -(2 ^ 62) ≤ j ∧ j < 2 ^ 62 ∧ R (Itr 0 j.toNat) H1
theorem pi_range1 {a : Expr} {ta : TA} {p pos : Pos} (hg : Gl X "range") (hm : X.mg "range" = none) (ha : PA X [a] ta) (hs : starEach [a] X.env = [(false, eval a X.env)] := by rfl) : PI X tg (.Call (.Name "range" p) [a] [] pos) (iRng1 ta) := by
  intro pins s σ H R I h
  refine Call_ (ld_blt I hg hm boot_range (PyProof.Rows.callWith_type1 (thn (ha pos pins s σ H _ I h) fun us s1 ⟨vs, H1, I1, r1, q1⟩ => ?_) hs rfl))
  obtain ⟨j, e, q1, q2, q⟩ := q1
  subst e
  cases r1 with
  | cons r rr =>
    cases rr
    obtain ⟨t, rfl⟩ := r
    exact call_range_1 (range_it I1 (by omega) (by omega) q1 q2 (by simpa using q))
/-! ### for -/
/-- W: the invariant by the turn and a measure; N: what the body is to reach -/
def tFor (wi : TI) (g : TG) (tb : TS) : TS := fun D σ H => wi σ H fun J H1 => ∃ W : Nat → Nat → St → Hp → Prop, (∃ m, W 0 m σ H1) ∧ ∀ i m σ H, W i m σ H →
  (J.stop i H ∧ D.nx σ H) ∨ (J.go i H ∧ ∃ N : St → Hp → Prop, (∀ σ' H', N σ' H' → ∃ m', m' < m ∧ W (i + 1) m' σ' H') ∧ ∀ x H', J.yld i H x H' → g x σ H' fun σ2 H2 => tb { D with nx := N, ct := N, bk := D.nx } σ2 H2)
/-- the records at fp as they stand -/
def pinsAt (fp : List Addr) (h : Heap) : List (Addr × Obj) := fp.filterMap fun b => (h.get? b).map fun o => (b, o)
theorem mem_pinsAt {fp : List Addr} {h : Heap} {b : Addr} {o : Obj} (hb : b ∈ fp) (e : h.get? b = some o) : (b, o) ∈ pinsAt fp h := List.mem_filterMap.mpr ⟨b, hb, by rw [e]; rfl⟩
theorem of_pinsAt {fp : List Addr} {h : Heap} {p : Addr × Obj} (hp : p ∈ pinsAt fp h) : p.1 ∈ fp ∧ h.get? p.1 = some p.2 := by
  obtain ⟨b, hb, e⟩ := List.mem_filterMap.mp hp
  cases q : h.get? b with
  | none => rw [q] at e; cases e
  | some o =>
    rw [q] at e
    have e' : (b, o) = p := Option.some.inj e
    subst e'
    exact ⟨hb, q⟩
theorem Inv.pinned {pins : List (Addr × Obj)} {σ : St} {H : Hp} {s : Shared} {fp : List Addr} (I : Inv X pins σ H s) (hf : ∀ b ∈ fp, FpOk X pins H b) (ho : ∀ b ∈ fp, ∃ o, s.heap.get? b = some o ∧ ∀ v, o.data ≠ .cell v) : Inv X (pins ++ pinsAt fp s.heap) σ H s :=
  I.pins_of fun p hp => (List.mem_append.mp hp).elim (fun z => I.pin p (List.mem_append_right _ z)) fun z => by
    obtain ⟨hb, e⟩ := of_pinsAt z
    obtain ⟨f0, f1, f2, _⟩ := hf p.1 hb
    obtain ⟨o, e', d⟩ := ho p.1 hb
    rw [e] at e'; cases e'
    exact ⟨e, f0, f1, f2, d⟩
theorem Inv.unpinned {pins pl : List (Addr × Obj)} {σ : St} {H : Hp} {s : Shared} (I : Inv X (pins ++ pl) σ H s) : Inv X pins σ H s := I.pins_of fun p hp => I.pin p (List.mem_append_right _ (List.mem_append_left _ hp))
theorem ps_for {iter : Expr} {body : List Stmt} {wi : TI} {g : TG} {tb : TS} {pos : Pos} (hp : PassesOwn (model X.prog X.w) X.A X.env X.xe) (hc : X.calm = true) (hi : PI X tg iter wi) (hg : PG X tg g) (hb : PSs X body tb)
    (hs : ∀ x, foldedSetIterable iter X.env x = pure x := by intro _; rfl) : PS X (.For tg iter body [] pos) (tFor wi g tb) := by
  intro pins s σ H D I h
  refine wpAny_For (thn (hi pins s σ H _ I h) fun v s1 h1 => thn h1 fun itv s2 h2 => ?_) hs
  obtain ⟨it, fp, tn, J, H2, e, I2, T, st2, f2, W, ⟨m0, w0⟩, turn⟩ := h2
  subst e
  have stat : ∀ {H' : Hp}, (∀ b ∈ fp, H' b = none) → ∀ b ∈ fp, FpOk X pins H' b := fun hn b hb => ⟨hn b hb, (f2 b hb).2⟩
  refine codeAny_forLoop_any (fun n s' => ∃ i σ' H', Inv X pins σ' H' s' ∧ tn i s'.heap ∧ (∀ b ∈ fp, H' b = none) ∧ W i n σ' H') ?_ m0 ⟨0, σ, H2, I2, st2, fun b hb => (f2 b hb).1, w0⟩
  rintro n s3 ⟨i, σ3, H3, I3, st3, fr3, w3⟩
  rcases turn i n σ3 H3 w3 with ⟨stop, qn⟩ | ⟨go, N, hN, step⟩
  · refine wpAny_passesOwn hp (thn (T.done X rfl rfl rfl hc i pins s3 σ3 H3 X.xe I3 (stat fr3) st3 stop) fun r s4 ⟨hr, I4⟩ => ?_)
    subst hr
    exact wpAny_execs_nil ⟨σ3, H3, I4, qn⟩
  · refine wpAny_passesOwn hp (thn (T.item X rfl rfl rfl hc i pins s3 σ3 H3 X.xe I3 (stat fr3) st3 go) fun r s4 ⟨u, hr, h4⟩ => ?_)
    subst hr
    refine wpAny_passesOwn hp (thn h4 fun _ s5 ⟨x, H5, I5, r5, y5, st5, fr5⟩ => ?_)
    have I5' := I5.pinned (stat fr5) (T.obj _ _ st5)
    refine wpAny_passesOwn hp (thn (hg _ s5 σ3 H5 x u _ I5' r5 (step x H5 y5)) fun _ s6 ⟨σ6, H6, I6, q6⟩ => ?_)
    refine wpAny_passesOwn hp (thn (hb _ s6 σ6 H6 _ I6 q6) fun f s7 q7 => ?_)
    have again : ∀ {σ7 : St} {H7 : Hp}, Inv X (pins ++ pinsAt fp s5.heap) σ7 H7 s7 → N σ7 H7 → ∃ m, m < n ∧ ∃ i σ' H', Inv X pins σ' H' s7 ∧ tn i s7.heap ∧ (∀ b ∈ fp, H' b = none) ∧ W i m σ' H' := fun {σ7 H7} I7 n7 => by
      obtain ⟨m', hm, w7⟩ := hN σ7 H7 n7
      refine ⟨m', hm, i + 1, σ7, H7, I7.unpinned, T.keep _ _ _ st5 fun b hb o e => (I7.pin (b, o) (List.mem_append_right _ (List.mem_append_right _ (mem_pinsAt hb e)))).1, fun b hb => ?_, w7⟩
      obtain ⟨o, e, d⟩ := T.obj _ _ st5 b hb
      exact (I7.pin (b, o) (List.mem_append_right _ (List.mem_append_right _ (mem_pinsAt hb e)))).2.1
    cases f with
    | next => obtain ⟨σ7, H7, I7, n7⟩ := q7; exact again I7 n7
    | cont => obtain ⟨σ7, H7, I7, n7⟩ := q7; exact again I7 n7
    | brk => obtain ⟨σ7, H7, I7, q7⟩ := q7; exact ⟨σ7, H7, I7.unpinned, q7⟩
    | ret v => obtain ⟨x7, σ7, H7, I7, r7, q7⟩ := q7; exact ⟨x7, σ7, H7, I7.unpinned, r7, q7⟩
end

/-! ### the forms one uses -/
/-- over a list that the body leaves as it is -/
theorem for_list {K : PySem.W.Frag} {a : Addr} {xs : List V} {g : TG} {tb : TS} {D : Ends} {σ : St} {H : Hp} (Pv : Nat → St → Hp → Prop) (h0 : Pv 0 σ H) (hl : ∀ i σ H, i ≤ xs.length → Pv i σ H → SqL K H a xs)
    (hs : ∀ i x σ H, xs[i]? = some x → Pv i σ H → g x σ H fun σ2 H2 => tb { D with nx := Pv (i + 1), ct := Pv (i + 1), bk := D.nx } σ2 H2) (hd : ∀ σ H, Pv xs.length σ H → D.nx σ H) :
    ∃ W : Nat → Nat → St → Hp → Prop, (∃ m, W 0 m σ H) ∧ ∀ i m σ H, W i m σ H →
      ((Itl K a).stop i H ∧ D.nx σ H) ∨ ((Itl K a).go i H ∧ ∃ N : St → Hp → Prop, (∀ σ' H', N σ' H' → ∃ m', m' < m ∧ W (i + 1) m' σ' H') ∧ ∀ x H', (Itl K a).yld i H x H' → g x σ H' fun σ2 H2 => tb { D with nx := N, ct := N, bk := D.nx } σ2 H2) := by
  refine ⟨fun i m σ H => m = xs.length - i ∧ i ≤ xs.length ∧ Pv i σ H, ⟨xs.length, by simp, Nat.zero_le _, h0⟩, ?_⟩
  rintro i m σ H ⟨rfl, hi, p⟩
  have q := hl i σ H hi p
  by_cases hlt : i < xs.length
  · refine .inr ⟨⟨xs, xs[i], q, by simp [hlt]⟩, Pv (i + 1), fun σ' H' p' => ⟨xs.length - (i + 1), by omega, rfl, hlt, p'⟩, fun x H' y => ?_⟩
    obtain ⟨e, y⟩ := y
    subst e
    exact hs i x σ _ (y xs q) p
  · have e : i = xs.length := by omega
    subst e
    exact .inl ⟨⟨xs, q, Nat.le_refl _⟩, hd σ H p⟩
theorem for_range {lo : Int} {n : Nat} {g : TG} {tb : TS} {D : Ends} {σ : St} {H : Hp} (Pv : Nat → St → Hp → Prop) (h0 : Pv 0 σ H)
    (hs : ∀ i σ H, i < n → Pv i σ H → g (.int (lo + i)) σ H fun σ2 H2 => tb { D with nx := Pv (i + 1), ct := Pv (i + 1), bk := D.nx } σ2 H2) (hd : ∀ σ H, Pv n σ H → D.nx σ H) :
    ∃ W : Nat → Nat → St → Hp → Prop, (∃ m, W 0 m σ H) ∧ ∀ i m σ H, W i m σ H →
      ((Itr lo n).stop i H ∧ D.nx σ H) ∨ ((Itr lo n).go i H ∧ ∃ N : St → Hp → Prop, (∀ σ' H', N σ' H' → ∃ m', m' < m ∧ W (i + 1) m' σ' H') ∧ ∀ x H', (Itr lo n).yld i H x H' → g x σ H' fun σ2 H2 => tb { D with nx := N, ct := N, bk := D.nx } σ2 H2) := by
  refine ⟨fun i m σ H => m = n - i ∧ i ≤ n ∧ Pv i σ H, ⟨n, by simp, Nat.zero_le _, h0⟩, ?_⟩
  rintro i m σ H ⟨rfl, hi, p⟩
  by_cases hlt : i < n
  · refine .inr ⟨hlt, Pv (i + 1), fun σ' H' p' => ⟨n - (i + 1), by omega, rfl, hlt, p'⟩, fun x H' y => ?_⟩
    obtain ⟨e, y⟩ := y
    subst e y
    exact hs i σ _ hlt p
  · have e : i = n := by omega
    subst e
    exact .inl ⟨Nat.le_refl _, hd σ H p⟩
end L2

namespace L2
open PySem PySem.Spec PyProof.Rows

abbrev R2 := V → V → Hp → VK → Prop
/-- a two-place operation on values: f is binaryOp op, inplaceOp op or compareOp op -/
def OpR (X : Cx) (f : Value → Value → Sem Value) (r : R2) : Prop :=
  ∀ (pins : List (Addr × Obj)) (s : Shared) (σ : St) (H : Hp) (x y : V) (v u : Value) (Q : VK), Inv X pins σ H s → RelV x v → RelV y u → r x y H Q →
    wpAny (model X.prog X.w) X.A (f v u) (EP X pins σ Q) X.xe s
/-- a one-place operation -/
def UnR (X : Cx) (f : Value → Sem Value) (r : V → Hp → VK → Prop) : Prop :=
  ∀ (pins : List (Addr × Obj)) (s : Shared) (σ : St) (H : Hp) (x : V) (v : Value) (Q : VK), Inv X pins σ H s → RelV x v → r x H Q →
    wpAny (model X.prog X.w) X.A (f v) (EP X pins σ Q) X.xe s
/-- a call of a value that is known (a builtin, a type) with values -/
def CallR (X : Cx) (f : Value) (r : List V → Hp → VK → Prop) : Prop :=
  ∀ (pins : List (Addr × Obj)) (s : Shared) (σ : St) (H : Hp) (xs : List V) (us : List Value) (Q : VK), Inv X pins σ H s → Vals xs us → r xs H Q →
    wpAny (model X.prog X.w) X.A (call f us) (EP X pins σ Q) X.xe s
/-- a value's truth -/
def TruR (X : Cx) (r : V → Hp → (Bool → Hp → Prop) → Prop) : Prop :=
  ∀ (pins : List (Addr × Obj)) (s : Shared) (σ : St) (H : Hp) (x : V) (v : Value) (Q : Bool → Hp → Prop), Inv X pins σ H s → RelV x v → r x H Q →
    wpAny (model X.prog X.w) X.A (truthy v) (TP X pins σ Q) X.xe s

def tOp (r : R2) (ta tb : TE) : TE := fun σ H Q => ta σ H fun x H1 => tb σ H1 fun y H2 => r x y H2 Q
def tUn (r : V → Hp → VK → Prop) (ta : TE) : TE := fun σ H Q => ta σ H fun x H1 => r x H1 Q
/-- ints in, under C, and a value out -/
def rI (C : Int → Int → Prop) (g : Int → Int → V) : R2 := fun x y H Q => ∃ i j, x = .int i ∧ y = .int j ∧ C i j ∧ Q (g i j) H
def rI0 (g : Int → Int → V) : R2 := fun x y H Q => ∃ i j, x = .int i ∧ y = .int j ∧ Q (g i j) H
def rU (g : Int → V) : V → Hp → VK → Prop := fun x H Q => ∃ i, x = .int i ∧ Q (g i) H

section
variable {X : Cx} {a b c : Expr} {ta tb tc : TE} {pos : Pos}

theorem binT (ha : PE X a ta) (hb : PE X b tb) {pins : List (Addr × Obj)} {s : Shared} {σ : St} {H : Hp} {R : V → V → Hp → Prop} (I : Inv X pins σ H s)
    (h : ta σ H fun x H1 => tb σ H1 fun y H2 => R x y H2) {Q : Value → Shared → Prop} {f : Value → Value → Sem Value}
    (hf : ∀ v u s2 x y H2, Inv X pins σ H2 s2 → RelV x v → RelV y u → R x y H2 → wpAny (model X.prog X.w) X.A (f v u) Q X.xe s2) :
    wpAny (model X.prog X.w) X.A (eval a X.env) (fun v s₁ => wpAny (model X.prog X.w) X.A (eval b X.env) (fun u s₂ => wpAny (model X.prog X.w) X.A (f v u) Q X.xe s₂) X.xe s₁) X.xe s := by
  refine thn (ha pins s σ H _ I h) fun v s1 ⟨x, H1, I1, r1, q1⟩ => ?_
  refine thn (hb pins s1 σ H1 _ I1 q1) fun u s2 ⟨y, H2, I2, r2, q2⟩ => ?_
  exact hf v u s2 x y H2 I2 r1 r2 q2

theorem pe_op {op : Operator} {r : R2} (ho : OpR X (binaryOp op) r) (ha : PE X a ta) (hb : PE X b tb) : PE X (.BinOp a op b pos) (tOp r ta tb) := by
  intro pins s σ H Q I h
  exact wpAny_BinOp (binT ha hb I h fun v u s2 x y H2 I2 rx ry q => ho pins s2 σ H2 x y v u Q I2 rx ry q)
theorem pe_un {op : UnaryOp} {r : V → Hp → VK → Prop} (ho : UnR X (unaryOp op) r) (ha : PE X a ta) : PE X (.UnaryOp op a pos) (tUn r ta) := by
  intro pins s σ H Q I h
  exact UnaryOp_ (thn (ha pins s σ H _ I h) fun v s1 ⟨x, H1, I1, r1, q1⟩ => ho pins s1 σ H1 x v Q I1 r1 q1)
/-! ### ints -/
theorem opI {f : Value → Value → Sem Value} {C : Int → Int → Prop} {g : Int → Int → Int}
    (rule : ∀ (i j : Int) (t u : Tok) (s : Shared) (Q : Value → Shared → Prop) (E : Value → Shared → Prop), C i j → Q (.int (g i j) s.toks) { s with toks := s.toks + 1 } → wpAny (model X.prog X.w) X.A (f (.int i t) (.int j u)) Q E s) :
    OpR X f (rI C fun i j => .int (g i j)) := by
  intro pins s σ H x y v u Q I rx ry h
  obtain ⟨i, j, rfl, rfl, hc, q⟩ := h
  obtain ⟨t, rfl⟩ := rx
  obtain ⟨t', rfl⟩ := ry
  exact rule i j t t' s _ _ hc ⟨.int (g i j), H, I.tok _, ⟨_, rfl⟩, q⟩
theorem opI0 {f : Value → Value → Sem Value} {g : Int → Int → Int}
    (rule : ∀ (i j : Int) (t u : Tok) (s : Shared) (Q : Value → Shared → Prop) (E : Value → Shared → Prop), Q (.int (g i j) s.toks) { s with toks := s.toks + 1 } → wpAny (model X.prog X.w) X.A (f (.int i t) (.int j u)) Q E s) :
    OpR X f (rI0 fun i j => .int (g i j)) := by
  intro pins s σ H x y v u Q I rx ry h
  obtain ⟨i, j, rfl, rfl, q⟩ := h
  obtain ⟨t, rfl⟩ := rx
  obtain ⟨t', rfl⟩ := ry
  exact rule i j t t' s _ _ ⟨.int (g i j), H, I.tok _, ⟨_, rfl⟩, q⟩
theorem opB0 {f : Value → Value → Sem Value} {g : Int → Int → Bool}
    (rule : ∀ (i j : Int) (t u : Tok) (s : Shared) (Q : Value → Shared → Prop) (E : Value → Shared → Prop), Q (.bool (g i j)) s → wpAny (model X.prog X.w) X.A (f (.int i t) (.int j u)) Q E s) :
    OpR X f (rI0 fun i j => .bl (g i j)) := by
  intro pins s σ H x y v u Q I rx ry h
  obtain ⟨i, j, rfl, rfl, q⟩ := h
  obtain ⟨t, rfl⟩ := rx
  obtain ⟨t', rfl⟩ := ry
  exact rule i j t t' s _ _ ⟨.bl (g i j), H, I, rfl, q⟩

def CPow (i j : Int) : Prop := 0 ≤ j ∧ j ≤ 1000000 ∧ i.natAbs < 2 ^ 64
def CMul (i j : Int) : Prop := (-(2 ^ 64) < i ∧ i < 2 ^ 64) ∨ (-(2 ^ 64) < j ∧ j < 2 ^ 64)
theorem CMul.ok {i j : Int} (h : CMul i j) : IntMulOk i j := by
  rcases h with ⟨h1, h2⟩ | ⟨h1, h2⟩
  · exact .of_left (intBits_le_64 h1 h2)
  · exact .of_right (intBits_le_64 h1 h2)
theorem op_add : OpR X (binaryOp .Add) (rI0 fun i j => .int (i + j)) := opI0 fun _ _ _ _ _ _ _ q => add_int q
theorem op_sub : OpR X (binaryOp .Sub) (rI0 fun i j => .int (i - j)) := opI0 fun _ _ _ _ _ _ _ q => sub_int q
theorem op_mul : OpR X (binaryOp .Mult) (rI CMul fun i j => .int (i * j)) := opI fun _ _ _ _ _ _ _ hc q => mul_int q hc.ok
/-- % by a positive divisor of any size -/
theorem op_mod : OpR X (binaryOp .Mod) (rI (fun _ j => 0 < j) fun i j => .int (i % j)) := opI fun i j _ _ _ _ _ hc q => by
  have h1 : (0 : Int) < j := hc
  exact mod_int' (by omega) (by rw [Int.fmod_eq_emod_of_nonneg i (by omega)]; exact q)
theorem op_pow : OpR X (binaryOp .Pow) (rI CPow fun i j => .int (i ^ j.toNat)) := opI fun _ _ _ _ _ _ _ hc q => pow_int_small hc.1 hc.2.1 hc.2.2 q
theorem op_shl : OpR X (binaryOp .LShift) (rI CPow fun i j => .int (i * 2 ^ j.toNat)) := opI fun _ _ _ _ _ _ _ hc q => lshift_int_small hc.1 hc.2.1 hc.2.2 q
theorem op_and : OpR X (binaryOp .BitAnd) (rI0 fun i j => .int (Builtin.bitAnd i j)) := opI0 fun _ _ _ _ _ _ _ q => and_int q
theorem op_or : OpR X (binaryOp .BitOr) (rI0 fun i j => .int (Builtin.bitOr i j)) := opI0 fun _ _ _ _ _ _ _ q => or_int q
theorem op_xor : OpR X (binaryOp .BitXor) (rI0 fun i j => .int (Builtin.bitXor i j)) := opI0 fun _ _ _ _ _ _ _ q => xor_int q

theorem unI {f : Value → Sem Value} {g : Int → Int}
    (rule : ∀ (i : Int) (t : Tok) (s : Shared) (Q : Value → Shared → Prop) (E : Value → Shared → Prop), Q (.int (g i) s.toks) { s with toks := s.toks + 1 } → wpAny (model X.prog X.w) X.A (f (.int i t)) Q E s) :
    UnR X f (rU fun i => .int (g i)) := by
  intro pins s σ H x v Q I rx h
  obtain ⟨i, rfl, q⟩ := h
  obtain ⟨t, rfl⟩ := rx
  exact rule i t s _ _ ⟨.int (g i), H, I.tok _, ⟨_, rfl⟩, q⟩
theorem un_neg : UnR X (unaryOp .USub) (rU fun i => .int (-i)) := unI fun _ _ _ _ _ q => neg_int q
/-! ### bools among ints: n += (a < b) -/
end

/-! ### comparisons -/
/-- the scalars that == tells apart as data does -/
def scal : V → V → Bool
  | .non, .non => true | .non, .int _ => true | .int _, .non => true | .non, .bl _ => true | .bl _, .non => true | .non, .str _ => true | .str _, .non => true
  | .int _, .int _ => true | .bl _, .bl _ => true | .str _, .str _ => true | .byt _, .byt _ => true
  | .int _, .str _ => true | .str _, .int _ => true | .bl _, .str _ => true | .str _, .bl _ => true
  | _, _ => false
def rEq : R2 := fun x y H Q => scal x y = true ∧ Q (.bl (decide (x = y))) H
def rNe : R2 := fun x y H Q => scal x y = true ∧ Q (.bl (!decide (x = y))) H

theorem dec_int {i j : Int} : decide (V.int i = V.int j) = (i == j) := by
  rw [Bool.eq_iff_iff]
  simp
theorem dec_bl {i j : Bool} : decide (V.bl i = V.bl j) = (i == j) := by
  rw [Bool.eq_iff_iff]
  simp
theorem dec_str {i j : Str} : decide (V.str i = V.str j) = (i == j) := by
  rw [Bool.eq_iff_iff]
  simp
theorem dec_byt {i j : Array UInt8} : decide (V.byt i = V.byt j) = (i.toList == j.toList) := by
  rw [Bool.eq_iff_iff]
  cases i
  cases j
  simp

section
variable {X : Cx} {a b c : Expr} {ta tb tc : TE} {pos : Pos}
theorem fin_bl {pins : List (Addr × Obj)} {σ : St} {H : Hp} {s : Shared} {Q : VK} {k k' : Bool} (I : Inv X pins σ H s) (q : Q (.bl k) H) (e : k = k') : EP X pins σ Q (.bool k') s := by
  subst e
  exact ⟨.bl k, H, I, rfl, q⟩
theorem op_eq : OpR X (compareOp .Eq) rEq := by
  intro pins s σ H x y v u Q I rx ry h
  obtain ⟨hs, q⟩ := h
  cases x with
  | non =>
    cases rx
    cases y with
    | non => cases ry; exact PySem.EqNone.eq_none_none (fin_bl I q (by simp))
    | bl j => cases ry; exact PySem.EqNone.eq_none_bool (fin_bl I q (by simp))
    | int j => obtain ⟨t', rfl⟩ := ry; exact PySem.EqNone.eq_none_int (fin_bl I q (by simp))
    | str j => obtain ⟨t', rfl⟩ := ry; exact PySem.EqNone.eq_none_str (fin_bl I q (by simp))
    | _ => exact absurd (show false = true from hs) Bool.false_ne_true
  | bl i =>
    cases rx
    cases y with
    | non => cases ry; exact PySem.EqNone.eq_bool_none (fin_bl I q (by simp))
    | bl j => cases ry; exact eq_bool (fin_bl I q dec_bl)
    | str j => obtain ⟨t', rfl⟩ := ry; exact PySem.EqMixed.eq_bool_str (fin_bl I q (by simp))
    | _ => exact absurd (show false = true from hs) Bool.false_ne_true
  | int i =>
    obtain ⟨t, rfl⟩ := rx
    cases y with
    | non => cases ry; exact PySem.EqNone.eq_int_none (fin_bl I q (by simp))
    | int j => obtain ⟨t', rfl⟩ := ry; exact eq_int (fin_bl I q dec_int)
    | str j => obtain ⟨t', rfl⟩ := ry; exact PySem.EqMixed.eq_int_str (fin_bl I q (by simp))
    | _ => exact absurd (show false = true from hs) Bool.false_ne_true
  | str i =>
    obtain ⟨t, rfl⟩ := rx
    cases y with
    | non => cases ry; exact PySem.EqNone.eq_str_none (fin_bl I q (by simp))
    | bl j => cases ry; exact PySem.EqMixed.eq_str_bool (fin_bl I q (by simp))
    | int j => obtain ⟨t', rfl⟩ := ry; exact PySem.EqMixed.eq_str_int (fin_bl I q (by simp))
    | str j => obtain ⟨t', rfl⟩ := ry; exact eq_str (fin_bl I q dec_str)
    | _ => exact absurd (show false = true from hs) Bool.false_ne_true
  | byt i =>
    obtain ⟨t, rfl⟩ := rx
    cases y with
    | byt j => obtain ⟨t', rfl⟩ := ry; exact PySem.W.eq_bytes (fin_bl I q dec_byt)
    | _ => exact absurd (show false = true from hs) Bool.false_ne_true
  | _ => cases y <;> exact absurd (show false = true from hs) Bool.false_ne_true
theorem op_ne : OpR X (compareOp .NotEq) rNe := by
  intro pins s σ H x y v u Q I rx ry h
  obtain ⟨hs, q⟩ := h
  cases x with
  | non =>
    cases rx
    cases y with
    | non => cases ry; exact PySem.EqNone.ne_none_none (fin_bl I q (by simp))
    | bl j => cases ry; exact PySem.EqNone.ne_none_bool (fin_bl I q (by simp))
    | int j => obtain ⟨t', rfl⟩ := ry; exact PySem.EqNone.ne_none_int (fin_bl I q (by simp))
    | str j => obtain ⟨t', rfl⟩ := ry; exact PySem.EqNone.ne_none_str (fin_bl I q (by simp))
    | _ => exact absurd (show false = true from hs) Bool.false_ne_true
  | bl i =>
    cases rx
    cases y with
    | non => cases ry; exact PySem.EqNone.ne_bool_none (fin_bl I q (by simp))
    | bl j => cases ry; exact ne_bool (fin_bl I q (congrArg not dec_bl))
    | str j => obtain ⟨t', rfl⟩ := ry; exact PySem.EqMixed.ne_bool_str (fin_bl I q (by simp))
    | _ => exact absurd (show false = true from hs) Bool.false_ne_true
  | int i =>
    obtain ⟨t, rfl⟩ := rx
    cases y with
    | non => cases ry; exact PySem.EqNone.ne_int_none (fin_bl I q (by simp))
    | int j => obtain ⟨t', rfl⟩ := ry; exact ne_int (fin_bl I q (congrArg not dec_int))
    | str j => obtain ⟨t', rfl⟩ := ry; exact PySem.EqMixed.ne_int_str (fin_bl I q (by simp))
    | _ => exact absurd (show false = true from hs) Bool.false_ne_true
  | str i =>
    obtain ⟨t, rfl⟩ := rx
    cases y with
    | non => cases ry; exact PySem.EqNone.ne_str_none (fin_bl I q (by simp))
    | bl j => cases ry; exact PySem.EqMixed.ne_str_bool (fin_bl I q (by simp))
    | int j => obtain ⟨t', rfl⟩ := ry; exact PySem.EqMixed.ne_str_int (fin_bl I q (by simp))
    | str j => obtain ⟨t', rfl⟩ := ry; exact ne_str (fin_bl I q (congrArg not dec_str))
    | _ => exact absurd (show false = true from hs) Bool.false_ne_true
  | byt i =>
    obtain ⟨t, rfl⟩ := rx
    cases y with
    | byt j => obtain ⟨t', rfl⟩ := ry; exact PySem.W.ne_bytes (fin_bl I q (congrArg not dec_byt))
    | _ => exact absurd (show false = true from hs) Bool.false_ne_true
  | _ => cases y <;> exact absurd (show false = true from hs) Bool.false_ne_true

theorem op_lt : OpR X (compareOp .Lt) (rI0 fun i j => .bl (decide (i < j))) := opB0 fun _ _ _ _ _ _ _ q => lt_int q
theorem op_le : OpR X (compareOp .LtE) (rI0 fun i j => .bl (decide (i ≤ j))) := opB0 fun _ _ _ _ _ _ _ q => le_int q
theorem op_gt : OpR X (compareOp .Gt) (rI0 fun i j => .bl (decide (j < i))) := opB0 fun _ _ _ _ _ _ _ q => gt_int q
theorem op_ge : OpR X (compareOp .GtE) (rI0 fun i j => .bl (decide (j ≤ i))) := opB0 fun _ _ _ _ _ _ _ q => ge_int q
/-- is None, is not None: the right side a value none -/
theorem op_isN : OpR X (compareOp .Is) (fun x y H Q => y = .non ∧ Q (.bl (decide (x = .non))) H) := by
  intro pins s σ H x y v u Q I rx ry h
  obtain ⟨rfl, q⟩ := h
  cases ry
  refine is_none_gen (fin_bl I q ?_)
  cases x <;> first
    | (cases rx; rfl)
    | (obtain ⟨t, rfl⟩ := rx; rfl)
theorem op_notN : OpR X (compareOp .IsNot) (fun x y H Q => y = .non ∧ Q (.bl (!decide (x = .non))) H) := by
  intro pins s σ H x y v u Q I rx ry h
  obtain ⟨rfl, q⟩ := h
  cases ry
  refine isnot_none_gen (fin_bl I q ?_)
  cases x <;> first
    | (cases rx; rfl)
    | (obtain ⟨t, rfl⟩ := rx; rfl)

theorem nomark (b : Expr) {op : CmpOp} (h : op ≠ .In := by decide) (h2 : op ≠ .NotIn := by decide) : behindInMarks op b = false := by
  have e1 : (op == CmpOp.In) = false := by cases op <;> first | rfl | exact absurd rfl h
  have e2 : (op == CmpOp.NotIn) = false := by cases op <;> first | rfl | exact absurd rfl h2
  cases b <;> simp [behindInMarks, e1, e2]
/-- a comparison as a value; hm: nomark b, or (for in, not in) by with_unfolding_all rfl -/
theorem pe_cmpR {op : CmpOp} {r : R2} (ho : OpR X (compareOp op) r) (ha : PE X a ta) (hb : PE X b tb) (hm : behindInMarks op b = false) : PE X (.Compare a [op] [b] pos) (tOp r ta tb) := by
  intro pins s σ H Q I h
  exact wpAny_Compare1 (binT ha hb I h fun v u s2 x y H2 I2 rx ry q => ho pins s2 σ H2 x y v u Q I2 rx ry q) hm
/-- a reading of a value as a test -/
def tTest (t : TE) : TT := fun σ H Q => t σ H fun x H' => ∃ k, x = .bl k ∧ Q k H'
theorem pt_cmpR {op : CmpOp} {r : R2} (ho : OpR X (compareOp op) r) (ha : PE X a ta) (hb : PE X b tb) (hm : behindInMarks op b = false) : PT X (.Compare a [op] [b] pos) (tTest (tOp r ta tb)) := by
  intro pins s σ H Q I h
  refine wpAny_isTrue_Compare1 (thn (ha pins s σ H _ I h) fun v s1 ⟨x, H1, I1, r1, q1⟩ => thn (hb pins s1 σ H1 _ I1 q1) fun u s2 ⟨y, H2, I2, r2, q2⟩ =>
    thn (ho pins s2 σ H2 x y v u _ I2 r1 r2 q2) fun c s3 ⟨z, H3, I3, r3, k, e, q3⟩ => ?_) hm
  subst e
  cases r3
  exact wpAny_truthy_bool ⟨H3, I3, q3⟩
/-- a op1 b op2 c -/
def tChain (r r' : R2) (ta tb tc : TE) : TE := fun σ H Q => ta σ H fun x H1 => tb σ H1 fun y H2 => r x y H2 fun z H3 => ∃ k, z = .bl k ∧
  (if k = true then tc σ H3 fun w' H4 => r' y w' H4 Q else Q (.bl false) H3)
theorem pe_chain {op op' : CmpOp} {r r' : R2} (ho : OpR X (compareOp op) r) (ho' : OpR X (compareOp op') r') (ha : PE X a ta) (hb : PE X b tb) (hc : PE X c tc)
    (hm : lastMarks [op, op'] [b, c] = false := by with_unfolding_all rfl) : PE X (.Compare a [op, op'] [b, c] pos) (tChain r r' ta tb tc) := by
  intro pins s σ H Q I h
  refine Compare_chain (thn (ha pins s σ H _ I h) fun v s1 ⟨x, H1, I1, r1, q1⟩ => chain_link (thn (hb pins s1 σ H1 _ I1 q1) fun u s2 ⟨y, H2, I2, r2, q2⟩ =>
    thn (ho pins s2 σ H2 x y v u _ I2 r1 r2 q2) fun d s3 ⟨z, H3, I3, r3, k, e, q3⟩ => ?_)) hm
  subst e
  cases r3
  refine wpAny_truthy_bool ?_
  cases k with
  | false => exact ite_ff ⟨.bl false, H3, I3, rfl, q3⟩
  | true => exact ite_tt (chain_last (thn (hc pins s3 σ H3 _ I3 q3) fun w' s4 ⟨z', H4, I4, r4, q4⟩ => ho' pins s4 σ H4 y z' u w' Q I4 r2 r4 q4))
/-! ### truth -/
/-- a value's truth by the abstract heap -/
def TruV (K : PySem.W.Frag) (x : V) (H : Hp) (k : Bool) : Prop :=
  match x with
  | .non => k = false
  | .bl b => k = b
  | .int i => k = (i != 0)
  | .str y => y.length ≤ sizeLine ∧ k = ((y.length : Int) != 0)
  | .byt y => y.size ≤ sizeLine ∧ k = ((y.size : Int) != 0)
  | .ref p => (∃ xs, SqL K H p xs ∧ k = !xs.isEmpty) ∨ (∃ xs, SqT K H p xs ∧ k = !xs.isEmpty) ∨ ∃ kvs, H p = some (.dK kvs) ∧ k = !kvs.isEmpty
  | _ => False
theorem isEmpty_kv {κ : Type} {kvs : List (κ × V)} {vs : List (κ × Value)} (r : KV kvs vs) : (!vs.isEmpty) = !kvs.isEmpty := by
  cases r <;> rfl
theorem isEmpty_of {xs : List V} {its : List Value} (r : Vals xs its) : (!its.toArray.isEmpty) = !xs.isEmpty := by
  cases r <;> simp
theorem line63 : (sizeLine : Nat) < 2 ^ 63 := by rw [sizeLine_eq]; decide
theorem tru_ok : TruR X (fun x H Q => ∃ k, TruV X.K x H k ∧ Q k H) := by
  intro pins s σ H x v Q I rx h
  obtain ⟨k, e, q⟩ := h
  have hl := line63
  have hs : sizeLine = 16777216 := sizeLine_eq
  cases x with
  | non =>
    cases rx
    have e' : k = false := e
    subst e'
    exact truthy_none ⟨H, I, q⟩
  | bl b =>
    cases rx
    have e' : k = b := e
    subst e'
    exact wpAny_truthy_bool ⟨H, I, q⟩
  | int i =>
    obtain ⟨t, rfl⟩ := rx
    have e' : k = (i != 0) := e
    subst e'
    exact PySem.P.truthy_int ⟨H, I, q⟩
  | str y =>
    obtain ⟨t, rfl⟩ := rx
    obtain ⟨hy, e'⟩ : y.length ≤ sizeLine ∧ k = ((y.length : Int) != 0) := e
    subst e'
    exact PySem.P.truthy_str (by omega) ⟨H, I.tok _, q⟩
  | byt y =>
    obtain ⟨t, rfl⟩ := rx
    obtain ⟨hy, e'⟩ : y.size ≤ sizeLine ∧ k = ((y.size : Int) != 0) := e
    subst e'
    exact PySem.W.truthy_bytes (by omega) ⟨H, I.tok _, q⟩
  | ref p =>
    cases rx
    have e' : (∃ xs, SqL X.K H p xs ∧ k = !xs.isEmpty) ∨ (∃ xs, SqT X.K H p xs ∧ k = !xs.isEmpty) ∨ ∃ kvs, H p = some (.dK kvs) ∧ k = !kvs.isEmpty := e
    rcases e' with ⟨xs, hx, e'⟩ | ⟨xs, hx, e'⟩ | ⟨kvs, hx, e'⟩
    · subst e'
      obtain ⟨its, r, pl, hz⟩ := I.list hx
      have hlen := r.length
      exact wpAny_truthy_list pl.isList (by simp only [List.size_toArray]; omega) ⟨H, I.tok _, by rw [isEmpty_of r]; exact q⟩
    · subst e'
      obtain ⟨its, r, pl, hz⟩ := I.tuple hx
      have hlen := r.length
      exact truthy_tuple pl (by simp only [List.size_toArray]; omega) ⟨H, I.tok _, by rw [isEmpty_of r]; exact q⟩
    · subst e'
      obtain ⟨hz, hS, vs, r, m⟩ : kvs.length ≤ sizeLine ∧ (p == sysModules) = false ∧ ∃ vs, KV kvs vs ∧ s.heap.DictOf (mixKind X.prog X.w) p vs := I.hok p _ hx
      have hlen : kvs.length = vs.length := Paired.length r
      exact wpAny_truthy_dict hS m (by omega) ⟨H, I.tok _, by rw [isEmpty_kv r]; exact q⟩
  | _ => exact (show False from e).elim
/-- any expression whose test is its value's truth (a name, a call, a subscript, a field ..: he by fun _ => rfl) -/
theorem pt_truth (ha : PE X a ta) (he : ∀ whole, isTrue a X.env whole = (do let v ← whole; standAt a.pos; holding [v] (truthy v))) :
    PT X a (fun σ H Q => ta σ H fun x H' => ∃ k, TruV X.K x H' k ∧ Q k H') := by
  intro pins s σ H Q I h
  exact isTrue_plain (thn (ha pins s σ H _ I h) fun v s1 ⟨x, H1, I1, r1, q1⟩ => tru_ok pins s1 σ H1 x v Q I1 r1 q1) (he _)

/-! ### strs and bytes -/
/-! ### scalar builtins, by CallR -/
theorem vals1 {x : V} {us : List Value} (r : Vals [x] us) : ∃ u, us = [u] ∧ RelV x u := by
  cases r with
  | cons r1 r2 => cases r2; exact ⟨_, rfl, r1⟩
theorem vals2 {x y : V} {us : List Value} (r : Vals [x, y] us) : ∃ u w', us = [u, w'] ∧ RelV x u ∧ RelV y w' := by
  cases r with
  | cons r1 r2 =>
    cases r2 with
    | cons r3 r4 => cases r4; exact ⟨_, _, rfl, r1, r3⟩
theorem call_max2 (hc : X.calm = true) : CallR X (.builtin "max") (fun xs H Q => ∃ i j, xs = [.int i, .int j] ∧ Q (.int (if j > i then j else i)) H) := by
  intro pins s σ H xs us Q I r h
  obtain ⟨i, j, rfl, q⟩ := h
  obtain ⟨u, w', rfl, ⟨t, rfl⟩, ⟨t', rfl⟩⟩ := vals2 r
  refine max_two_ints (I.ok.hd hc) fun h' tk k => ⟨_, H, I.kept k, ?_, q⟩
  by_cases hj : j > i
  · rw [if_pos hj, if_pos hj]; exact ⟨_, rfl⟩
  · rw [if_neg hj, if_neg hj]; exact ⟨_, rfl⟩
theorem call_min2 (hc : X.calm = true) : CallR X (.builtin "min") (fun xs H Q => ∃ i j, xs = [.int i, .int j] ∧ Q (.int (if j < i then j else i)) H) := by
  intro pins s σ H xs us Q I r h
  obtain ⟨i, j, rfl, q⟩ := h
  obtain ⟨u, w', rfl, ⟨t, rfl⟩, ⟨t', rfl⟩⟩ := vals2 r
  refine min_two_ints (I.ok.hd hc) fun h' tk k => ⟨_, H, I.kept k, ?_, q⟩
  by_cases hj : j < i
  · rw [if_pos hj, if_pos hj]; exact ⟨_, rfl⟩
  · rw [if_neg hj, if_neg hj]; exact ⟨_, rfl⟩
theorem call_int1 : CallR X (.type "int") (fun xs H Q => (∃ i, xs = [.int i] ∧ Q (.int i) H) ∨ ∃ k, xs = [.bl k] ∧ Q (.int (if k then 1 else 0)) H) := by
  intro pins s σ H xs us Q I r h
  rcases h with ⟨i, rfl, q⟩ | ⟨k, rfl, q⟩
  · obtain ⟨u, rfl, t, rfl⟩ := vals1 r
    exact call_int_int ⟨.int i, H, I, ⟨_, rfl⟩, q⟩
  · obtain ⟨u, rfl, r1⟩ := vals1 r
    cases r1
    exact call_int_bool ⟨.int (if k then 1 else 0), H, I.tok _, ⟨_, rfl⟩, q⟩
/-- len of a str, a bytes, a list, a tuple -/
def LenV (K : PySem.W.Frag) (x : V) (H : Hp) (n : Nat) : Prop :=
  match x with
  | .str y => y.length ≤ sizeLine ∧ n = y.length
  | .byt y => y.size ≤ sizeLine ∧ n = y.size
  | .ref p => (∃ xs, SqL K H p xs ∧ n = xs.length) ∨ ∃ xs, SqT K H p xs ∧ n = xs.length
  | _ => False
theorem call_len : CallR X (.builtin "len") (fun xs H Q => ∃ x n, xs = [x] ∧ LenV X.K x H n ∧ Q (.int n) H) := by
  intro pins s σ H xs us Q I r h
  obtain ⟨x, n, rfl, e, q⟩ := h
  obtain ⟨u, rfl, rx⟩ := vals1 r
  have hl := line63
  have hs : sizeLine = 16777216 := sizeLine_eq
  cases x with
  | str y =>
    obtain ⟨t, rfl⟩ := rx
    obtain ⟨hy, e'⟩ : y.length ≤ sizeLine ∧ n = y.length := e
    subst e'
    exact len_str (by omega) ⟨.int _, H, I.tok _, ⟨_, rfl⟩, q⟩
  | byt y =>
    obtain ⟨t, rfl⟩ := rx
    obtain ⟨hy, e'⟩ : y.size ≤ sizeLine ∧ n = y.size := e
    subst e'
    exact PySem.W.len_bytes (by omega) ⟨.int _, H, I.tok _, ⟨_, rfl⟩, q⟩
  | ref p =>
    cases rx
    have e' : (∃ xs, SqL X.K H p xs ∧ n = xs.length) ∨ ∃ xs, SqT X.K H p xs ∧ n = xs.length := e
    rcases e' with ⟨xs, hx, e'⟩ | ⟨xs, hx, e'⟩
    · subst e'
      obtain ⟨its, r', pl, hz⟩ := I.list hx
      have hlen := r'.length
      exact Calls.call_len_list pl.isList (by simp only [List.size_toArray]; omega) ⟨.int xs.length, H, I.tok _, ⟨_, by simp only [List.size_toArray]; rw [hlen]⟩, q⟩
    · subst e'
      obtain ⟨its, r', pl, hz⟩ := I.tuple hx
      have hlen := r'.length
      exact len_tuple pl (by simp only [List.size_toArray]; omega) ⟨.int xs.length, H, I.tok _, ⟨_, by simp only [List.size_toArray]; rw [hlen]⟩, q⟩
  | _ => exact (show False from e).elim
end
end L2

namespace L2
open PySem PySem.Spec PyProof.Rows

/-! ### an instance, its attributes a map -/
structure ObjM (h : Heap) (x dx C : Addr) (mA : Str → Option Value) : Prop where
  obj : h.get? x = some (PySem.W.instObj C dx)
  ns : h.Ns1 dx mA
  ne : dx ≠ x

theorem lookIn_ns {h : Heap} {dx : Addr} {mA : Str → Option Value} (n : h.Ns1 dx mA) : ∃ od, h.get? dx = some od ∧ ∀ name, PySem.W.lookIn name od = some (mA name) := by
  obtain ⟨o, es, ep, ho, hd, hk, _, hm⟩ := n
  refine ⟨o, ho, fun name => ?_⟩
  have e := hm name
  unfold nsFind findBy at e
  rw [← Array.find?_toList] at e
  unfold PySem.W.lookIn
  rw [hd]
  dsimp only
  split
  · rename_i y q
    rw [q] at e
    exact congrArg some e
  · rename_i q
    rw [q] at e
    have a : es.toList.any (·.refKey) = false := by
      rw [List.any_eq_false]
      intro y hy
      obtain ⟨z, t, hkey⟩ := hk y (Array.mem_toList_iff.mp hy)
      simp [DictEntry.refKey, hkey]
    have a' : ¬ es.toList.any (·.refKey) = true := by rw [a]; exact Bool.false_ne_true
    rw [if_neg a']
    exact congrArg some e

theorem ObjM.look {h : Heap} {x dx C : Addr} {mA : Str → Option Value} (I : ObjM h x dx C mA) : ∃ od, PySem.W.InstAt h x (PySem.W.instObj C dx) C (some od) ∧ ∀ name, PySem.W.lookIn name od = some (mA name) :=
  let ⟨od, ho, hl⟩ := lookIn_ns I.ns
  ⟨od, ⟨I.obj, rfl, rfl, ho⟩, hl⟩

section
variable {prog : Program} {w : World} {A : Around} {E : Value → Shared → Prop} {s : Shared} {K : PySem.W.Frag} {x dx C f : Addr} {mA : Str → Option Value} {name : Str} {v : Value}

theorem get_map {expr : Bool} {Q : Value → Shared → Prop} (X : K.In s.heap) (I : ObjM s.heap x dx C mA) (hg : PySem.W.plainGet K C name = true) (hh : PySem.W.hasDictIn K C = true)
    (ha : PySem.W.findIn K (.ref C) name = some none) (hv : mA name = some v) (hv' : PySem.W.handedIn v = true) (h : Q v { s with toks := s.toks + 1 }) :
    wpAny (model prog w) A (getAttr (.ref x) name expr) Q E s := by
  obtain ⟨od, J, hl⟩ := I.look
  exact PySem.W.get_value X J (PySem.W.plainGet_of hg).1 (PySem.W.findObj_own hh ha rfl (by rw [hl, hv])) hv' h

theorem get_meth {pl : Sem Bool} {Q : Value × List Value → Shared → Prop} (X : K.In s.heap) (I : ObjM s.heap x dx C mA) (hg : PySem.W.plainGet K C name = true)
    (hf : PySem.W.findIn K (.ref C) name = some (some (.ref f))) (ht : PySem.W.isFn K (.ref f) = true) (hv : mA name = none) (h : Q (.ref f, [.ref x]) s) :
    wpAny (model prog w) A (getMethod (.ref x) name pl) Q E s := by
  obtain ⟨od, J, hl⟩ := I.look
  exact PySem.W.method_fn X J (PySem.W.plainGet_of hg).1 (PySem.W.plainGet_of hg).2 hf (beq_iff_eq.mp ht) (by show (PySem.W.lookIn name od).map (·.isSome) = some false; rw [hl, hv]; rfl) h

theorem set_map {ns : List Str} {Q : Unit → Shared → Prop} (X : K.In s.heap) (I : ObjM s.heap x dx C mA)
    (hs : PySem.W.findIn K (.ref C) "__setattr__" = some (some (.builtin "object.__setattr__"))) (hp : PySem.W.plainOver K C = true) (ht : PySem.W.takerIn K C name = some none) (hh : PySem.W.hasDictIn K C = true)
    (hw : PySem.Within mA ns) (hsz : ns.length ≤ sizeLine)
    (h : ∀ h', ObjM h' x dx C (fun y => if y = name then some v else mA y) → Heap.SameBut dx s.heap h' → Q () { s with heap := h', toks := s.toks + 2 }) :
    wpAny (model prog w) A (setAttr (.ref x) name v) Q E s := by
  obtain ⟨od, J, hl⟩ := I.look
  refine PySem.W.set_plain X J hs (PySem.W.osa_open (s := { s with toks := s.toks + 1 }) (r := none) X J hp ht fun b => ?_)
  obtain ⟨cd, hc, hd'⟩ := PySem.W.any_some hh
  have hx : s.heap.get? x = some ⟨.ref C, some dx, .plain, #[]⟩ := I.obj
  refine wpAny_bind (wpAny_pure (wpAny_bind (wpAny_bind (wpAny_loadPart hx (wpAny_bind (PySem.W.Looks.here (s := { s with toks := s.toks + 1 }) (PySem.W.looks_clsIn X hc) ?_))))))
  rw [hd']
  refine wpAny_pure (a := some dx) (wpAny_bind (wpAny_pure (wpAny_bind ?_)))
  refine wpAny_nsSet1 (s := { s with toks := s.toks + 1 }) I.ns fun h' hn2 hs2 => ?_
  obtain ⟨oD, esD, epD, hoD, hdD, hcD⟩ := hn2.count (PySem.Within.cons name v hw)
  refine wpAny_bind (wpAny_lookBehind hoD (by rw [hdD]; exact pastItsLine_dict (Nat.le_trans hcD (by rw [List.length_cons]; omega))) ?_)
  exact wpAny_pure (h _ ⟨(hs2.2 _ (Ne.symm I.ne)).trans I.obj, hn2, I.ne⟩ hs2)

/-- C(..): the dict at the heap's end, the instance behind it; then its __init__ -/
theorem make_map {R : Result → Shared → Prop} {vs : List Value} {kw : List (Str × Value)} (X : K.In s.heap) (hm : PySem.W.makesIn K C = true)
    (hi : PySem.W.findIn K (.ref C) "__init__" = some (some (.ref f))) (hf : PySem.W.typeIn K (.ref f) = some (.type "function"))
    (h : codeAny (model prog w) (A.under (.builtin "type.__call__" ⟨.ref C :: vs, kw⟩)) (.call (.ref f) ⟨.ref (s.heap.objs.size + 1) :: vs, kw⟩) (PySem.W.InitBack (s.heap.objs.size + 1) R)
      { s with heap := (s.heap.push PySem.W.emptyDict).push (PySem.W.instObj C s.heap.objs.size) }) :
    codeAny (model prog w) A (.call (.ref C) ⟨vs, kw⟩) R s := by
  obtain ⟨hh, g, d, t, os⟩ := s
  exact PySem.W.make_core (PySem.W.makes_of X hm) (PySem.W.looks_findIn X hi) (fun self => PySem.W.bind_fn X self hf) (.inl rfl) h
end

/-! ### the attributes as a list of pairs -/
def putF (f : Str) (v : V) : List (Str × V) → List (Str × V)
  | [] => [(f, v)]
  | (g, x) :: r => if g = f then (g, v) :: r else (g, x) :: putF f v r
theorem lookup_putF (f g : Str) (v : V) : ∀ fs : List (Str × V), (putF f v fs).lookup g = if g = f then some v else fs.lookup g
  | [] => by
    show List.lookup g [(f, v)] = _
    by_cases h : g = f
    · have hb : (g == f) = true := beq_iff_eq.mpr h
      simp only [List.lookup, hb, if_pos h]
    · have hb : (g == f) = false := beq_eq_false_iff_ne.mpr h
      simp only [List.lookup, hb, if_neg h]
  | (k, x) :: r => by
    have ih := lookup_putF f g v r
    rw [show putF f v ((k, x) :: r) = (if k = f then (k, v) :: r else (k, x) :: putF f v r) from rfl]
    by_cases hk : k = f
    · rw [if_pos hk]
      by_cases h : g = k
      · have hb : (g == k) = true := beq_iff_eq.mpr h
        simp only [List.lookup, hb, if_pos (h.trans hk)]
      · have hb : (g == k) = false := beq_eq_false_iff_ne.mpr h
        simp only [List.lookup, hb, if_neg (fun e : g = f => h (e.trans hk.symm))]
    · rw [if_neg hk]
      by_cases h : g = k
      · have hb : (g == k) = true := beq_iff_eq.mpr h
        simp only [List.lookup, hb, if_neg (fun e : g = f => hk (h.symm.trans e))]
      · have hb : (g == k) = false := beq_eq_false_iff_ne.mpr h
        simp only [List.lookup, hb]
        exact ih
theorem keys_putF (f : Str) (v : V) : ∀ fs : List (Str × V), f ∈ (putF f v fs).map (·.1) ∧ ∀ g, g ∈ fs.map (·.1) → g ∈ (putF f v fs).map (·.1)
  | [] => ⟨by simp [putF], fun g h => by simp at h⟩
  | (k, x) :: r => by
    obtain ⟨i1, i2⟩ := keys_putF f v r
    rw [show putF f v ((k, x) :: r) = (if k = f then (k, v) :: r else (k, x) :: putF f v r) from rfl]
    by_cases hk : k = f
    · rw [if_pos hk]
      subst hk
      exact ⟨by simp, fun g h => by simpa using h⟩
    · rw [if_neg hk]
      refine ⟨?_, fun g h => ?_⟩
      · rw [List.map_cons]
        exact List.mem_cons_of_mem _ i1
      · rw [List.map_cons] at h ⊢
        rcases List.mem_cons.mp h with e | e
        · exact List.mem_cons.mpr (.inl e)
        · exact List.mem_cons_of_mem _ (i2 g e)
theorem length_putF (f : Str) (v : V) : ∀ fs : List (Str × V), (putF f v fs).length ≤ fs.length + 1
  | [] => by simp [putF]
  | (k, x) :: r => by
    have ih := length_putF f v r
    rw [show putF f v ((k, x) :: r) = (if k = f then (k, v) :: r else (k, x) :: putF f v r) from rfl]
    by_cases hk : k = f
    · rw [if_pos hk, List.length_cons, List.length_cons]; omega
    · rw [if_neg hk, List.length_cons, List.length_cons]; omega

theorem RelO.some_of {v : V} {o : Option Value} (r : RelO (some v) o) : ∃ u, o = some u ∧ RelV v u := by
  cases o with
  | none => exact (show False from r).elim
  | some u => exact ⟨u, rfl, r⟩
theorem RelO.none_of {o : Option Value} (r : RelO none o) : o = none := by
  cases o with
  | none => rfl
  | some u => exact (show False from r).elim
theorem handed_of {v : V} {u : Value} (r : RelV v u) : PySem.W.handedIn u = true := by
  cases v with
  | non => cases (show u = Value.none from r); rfl
  | bl b => cases (show u = Value.bool b from r); rfl
  | int i => obtain ⟨t, e⟩ := (show ∃ t, u = Value.int i t from r); cases e; rfl
  | str x => obtain ⟨t, e⟩ := (show ∃ t, u = Value.str x t from r); cases e; rfl
  | byt b => obtain ⟨t, e⟩ := (show ∃ t, u = Value.bytes b t from r); cases e; rfl
  | flt b => obtain ⟨t, e⟩ := (show ∃ t, u = Value.float b t from r); cases e; rfl
  | ref a => cases (show u = Value.ref a from r); rfl
  | ty n => cases (show u = Value.type n from r); rfl

section
variable {P : Program} {w : World} {H H' : Hp} {h h' : Heap} {a C dx : Addr} {fs fs' : List (Str × V)}
theorem ins_get (hok : HOk P w H h) (e : H a = some (.ins C dx fs)) : ∃ mA, ObjM h a dx C mA ∧ (∀ f, RelO (fs.lookup f) (mA f)) ∧ PySem.Within mA (fs.map (·.1)) ∧ fs.length ≤ 1000 ∧ H dx = some (.own a) := by
  obtain ⟨d, z, ne, ob, mA, n, r, q⟩ := (show ObjOk P w H h a (.ins C dx fs) from hok a _ e)
  exact ⟨mA, ⟨ob, n, ne⟩, r, q, z, d⟩
end

/-! ### what of the text a class must have -/
structure Cls (K : PySem.W.Frag) (C : Addr) : Prop where
  pg : PySem.W.plainGet K C Str.empty = true
  hd : PySem.W.hasDictIn K C = true
  po : PySem.W.plainOver K C = true
  sa : PySem.W.findIn K (.ref C) "__setattr__" = some (some (.builtin "object.__setattr__"))
theorem Cls.get {K : PySem.W.Frag} {C : Addr} (c : Cls K C) (f : Str) : PySem.W.plainGet K C f = true := c.pg
/-- no class of it has the name -/
def NoAttr (K : PySem.W.Frag) (C : Addr) (f : Str) : Prop := PySem.W.findIn K (.ref C) f = some none
theorem NoAttr.taker {K : PySem.W.Frag} {C : Addr} {f : Str} (n : NoAttr K C f) : PySem.W.takerIn K C f = some none := by
  unfold PySem.W.takerIn
  rw [show PySem.W.findIn K (.ref C) f = some none from n]
  rfl
/-- a method: a plain def of the class or of one above it -/
structure Meth (K : PySem.W.Frag) (C : Addr) (m : Str) (f : Addr) : Prop where
  at_ : PySem.W.findIn K (.ref C) m = some (some (.ref f))
  fn : PySem.W.isFn K (.ref f) = true
  kp : PySem.W.keepIn K (.ref f) = true

section
variable {X : Cx} {pins : List (Addr × Obj)} {σ : St} {H : Hp} {s : Shared} {a C dx : Addr} {fs : List (Str × V)} {f : Str} {v : V} {A : Around} {E : Value → Shared → Prop}

theorem getattr_ok {b : Bool} {Q : Value → Shared → Prop} (I : Inv X pins σ H s) (e : H a = some (.ins C dx fs)) (c : Cls X.K C) (n : NoAttr X.K C f) (l : fs.lookup f = some v)
    (h : ∀ u s', Inv X pins σ H s' → RelV v u → Q u s') : wpAny (model X.prog X.w) A (getAttr (.ref a) f b) Q E s := by
  obtain ⟨mA, O, r, _, _, _⟩ := ins_get I.hok e
  obtain ⟨u, hu, ru⟩ := RelO.some_of (v := v) (o := mA f) (by rw [← l]; exact r f)
  exact get_map I.kIn O (c.get f) c.hd n hu (handed_of ru) (h u _ (I.tok _) ru)

theorem getmeth_ok {m : Str} {g : Addr} {pl : Sem Bool} {Q : Value × List Value → Shared → Prop} (I : Inv X pins σ H s) (e : H a = some (.ins C dx fs)) (c : Cls X.K C) (k : Meth X.K C m g) (l : fs.lookup m = none)
    (h : Q (.ref g, [.ref a]) s) : wpAny (model X.prog X.w) A (getMethod (.ref a) m pl) Q E s := by
  obtain ⟨mA, O, r, _, _, _⟩ := ins_get I.hok e
  have hn : mA m = none := RelO.none_of (by rw [← l]; exact r m)
  exact get_meth I.kIn O (c.get m) k.at_ k.fn hn h

theorem setattr_ok {y : V} {u : Value} {Q : Unit → Shared → Prop} (I : Inv X pins σ H s) (e : H a = some (.ins C dx fs)) (c : Cls X.K C) (n : NoAttr X.K C f) (hl : fs.length < 1000) (ry : RelV y u)
    (h : ∀ s', Inv X pins σ (upd H a (.ins C dx (putF f y fs))) s' → Q () s') : wpAny (model X.prog X.w) A (setAttr (.ref a) f u) Q E s := by
  obtain ⟨mA, O, r, wi, _, ho⟩ := ins_get I.hok e
  have hz : (fs.map (·.1)).length ≤ sizeLine := by rw [List.length_map, sizeLine_eq]; omega
  refine set_map I.kIn O c.sa c.po n.taker c.hd wi hz fun h' O' sb => h _ ?_
  have hd : ∃ o, h'.get? dx = some o := let ⟨o, _, _, e', _⟩ := O'.ns; ⟨o, e'⟩
  refine I.write (x := a) (e := dx) (by rw [e]; exact True.intro) (.inr ho) (fun b q hb z => (sb.2 b hb).trans z) hd ?_
  refine ⟨by rw [upd_ne O.ne]; exact ho, ?_, O.ne, O'.obj, _, O'.ns, fun g => ?_, fun g hg => ?_⟩
  · have := length_putF f y fs; omega
  · show RelO ((putF f y fs).lookup g) (if g = f then some u else mA g)
    rw [lookup_putF]
    by_cases q : g = f
    · rw [if_pos q, if_pos q]; exact ry
    · rw [if_neg q, if_neg q]; exact r g
  · by_cases q : g = f
    · rw [q]; exact (keys_putF f y fs).1
    · refine (keys_putF f y fs).2 g (wi g fun z => hg ?_)
      show (if g = f then some u else mA g) = none
      rw [if_neg q]; exact z

/-- a new instance, tracked, without attributes -/
theorem Inv.made (I : Inv X pins σ H s) : Inv X pins σ (upd (upd H s.heap.objs.size (.own (s.heap.objs.size + 1))) (s.heap.objs.size + 1) (.ins C s.heap.objs.size []))
    { s with heap := (s.heap.push PySem.W.emptyDict).push (PySem.W.instObj C s.heap.objs.size) } := by
  have e1 : (s.heap.push PySem.W.emptyDict).get? s.heap.objs.size = some PySem.W.emptyDict := Heap.get?_push_size s.heap rfl
  have e2 : ((s.heap.push PySem.W.emptyDict).push (PySem.W.instObj C s.heap.objs.size)).get? (s.heap.objs.size + 1) = some (PySem.W.instObj C s.heap.objs.size) := by
    have := Heap.get?_push_size (s.heap.push PySem.W.emptyDict) (o := PySem.W.instObj C s.heap.objs.size) rfl
    rwa [Heap.size_push] at this
  have e3 : (s.heap.push PySem.W.emptyDict).Ns s.heap.objs.size (fun _ => none) := ⟨PySem.W.emptyDict, #[], _, e1, rfl, (fun e he => absurd he (by simp)), fun _ => rfl⟩
  have I1 := I.laid (a := s.heap.objs.size) (o := .own (s.heap.objs.size + 1)) (h' := s.heap.push PySem.W.emptyDict) (t' := s.toks) (fun b u q => Heap.get?_push_of_some _ q) (Nat.le_refl _) ⟨_, e1⟩
  refine I1.laid (a := s.heap.objs.size + 1) (o := .ins C s.heap.objs.size []) (t' := s.toks) (fun b u q => Heap.get?_push_of_some _ q) (Nat.le_of_eq (Heap.size_push _ _)) ?_
  have ne : s.heap.objs.size ≠ s.heap.objs.size + 1 := Nat.ne_of_lt (Nat.lt_succ_self _)
  refine ⟨by rw [upd_ne ne, upd_same], Nat.zero_le _, ne, e2, fun _ => none, (Heap.Ns1.of_empty e3).at fun o q => Heap.get?_push_of_some _ q, fun _ => True.intro, fun y hy => absurd rfl hy⟩

/-- e.f where nothing but the object is asked: through attributeBase (super) and the last hold -/
theorem attr_of {prog : Program} {w : World} {env : Env} {e : Expr} {f : Str} {pos : Pos} {s : Shared} {Q : Value → Shared → Prop} (hb : attributeBase e f env (eval e env) = eval e env)
    (h : wpAny (model prog w) A (eval e env) (fun o s₁ => wpAny (model prog w) A (getAttr o f true) Q E s₁) E s) : wpAny (model prog w) A (eval (.Attribute e f pos) env) Q E s :=
  Attribute_any_ h (by rw [arm_eval_Attribute, hb])
end

/-! ### readings and rules -/
/-- e.f, an attribute of the instance -/
def tFld (K : PySem.W.Frag) (ta : TE) (f : Str) : TE := fun σ H Q => ta σ H fun x H1 => ∃ a C dx fs v, x = .ref a ∧ H1 a = some (.ins C dx fs) ∧ Cls K C ∧ NoAttr K C f ∧ fs.lookup f = some v ∧ Q v H1
/-- e.f = value -/
def sFld (K : PySem.W.Frag) (ta tv : TE) (f : Str) : TS := fun D σ H => tv σ H fun y H1 => ta σ H1 fun x H2 => ∃ a C dx fs, x = .ref a ∧ H2 a = some (.ins C dx fs) ∧ Cls K C ∧ NoAttr K C f ∧ fs.length < 1000 ∧
  D.nx σ (upd H2 a (.ins C dx (putF f y fs)))
section
variable {X : Cx} {o e value : Expr} {f : Str} {pos pos' tpos : Pos} {ta tv : TE}
theorem pe_fld (he : PE X e ta) (hb : attributeBase e f X.env (eval e X.env) = eval e X.env) : PE X (.Attribute e f pos) (tFld X.K ta f) := by
  intro pins s σ H Q I h
  refine attr_of hb (thn (he pins s σ H _ I h) fun u s1 ⟨x, H1, I1, rx, a, C, dx, fs, v, ex, ea, c, n, l, q⟩ => ?_)
  subst ex
  obtain rfl : u = Value.ref a := rx
  exact getattr_ok I1 ea c n l fun u' s2 I2 ru => ⟨v, H1, I2, ru, q⟩
theorem ps_fld (ha : PE X o ta) (hv : PE X value tv) (hs : swapsWith value (some (.Attribute o f pos')) pos.line X.env = pure false) : PS X (.Assign [.Attribute o f pos'] value pos) (sFld X.K ta tv f) := by
  intro pins s σ H D I h
  refine plainObj_wpAny_Assign_Attribute (thn (hv pins s σ H _ I h) fun u s1 ⟨y, H1, I1, ry, q⟩ => thn (ha pins s1 σ H1 _ I1 q) fun ov s2 ⟨x, H2, I2, rx, a, C, dx, fs, ex, ea, c, n, l, q2⟩ => ?_) hs
  subst ex
  obtain rfl : ov = Value.ref a := rx
  exact setattr_ok I2 ea c n l ry fun s3 I3 => ⟨σ, _, I3, q2⟩
end

/-! ### isinstance -/
section
variable {X : Cx} {pins : List (Addr × Obj)} {σ : St} {H : Hp} {s : Shared} {A : Around} {E : Value → Shared → Prop} {Q : Value → Shared → Prop} {c : Value} {b : Bool}
/-- the type of a value, as the fragment's deciders take it; for an instance its class -/
inductive TyOf (K : PySem.W.Frag) (H : Hp) : V → Value → Prop where
  | non : TyOf K H .non (.type "NoneType")
  | bl (x : Bool) : TyOf K H (.bl x) (.type "bool")
  | int (i : Int) : TyOf K H (.int i) (.type "int")
  | str (x : Str) : TyOf K H (.str x) (.type "str")
  | flt (x : UInt64) : TyOf K H (.flt x) (.type "float")
  | lst {a : Addr} {xs : List V} (e : H a = some (.lst xs)) : TyOf K H (.ref a) (.type "list")
  | frz {a : Addr} {o : Obj} {xs : List V} (e : H a = some (.frz o (.lst xs))) : TyOf K H (.ref a) (.type "list")
  | tup {a : Addr} {xs : List V} (e : H a = some (.tup xs)) : TyOf K H (.ref a) (.type "tuple")
  | dK {a : Addr} {kvs : List (Key × V)} (e : H a = some (.dK kvs)) : TyOf K H (.ref a) (.type "dict")
  | dT {a : Addr} {kvs : List (List Key × V)} (e : H a = some (.dT kvs)) : TyOf K H (.ref a) (.type "dict")
  | ins {a C dx : Addr} {fs : List (Str × V)} (e : H a = some (.ins C dx fs)) (cl : Cls K C) (ha : PySem.W.findIn K (.ref C) "__class__" = some (some (.builtin "object.__class__")))
      (hn : PySem.W.specialIn K (.builtin "object.__class__") "__get__" = some (some (.builtin "getset_descriptor.__get__"))) (htk : PySem.W.takesIn K (.builtin "object.__class__") = some true)
      (hm : PySem.W.mroIn K C (.type "object") = some true) : TyOf K H (.ref a) (.ref C)
/-- isinstance(x, c) for one class c, a built-in or an own one: kitOne's answer -/
theorem isinst_ok {x : V} {u t : Value} (I : Inv X pins σ H s) (rx : RelV x u) (ty : TyOf X.K H x t) (e : PySem.W.kitOne X.K t c = some b) (h : ∀ tk, Q (.bool b) { s with toks := tk }) :
    wpAny (model X.prog X.w) A (call (.builtin "isinstance") [u, c]) Q E s := by
  cases ty with
  | non => cases (show u = Value.none from rx); exact PySem.W.kia_one PySem.W.kitx_none I.kIn True.intro e (fun z => nomatch z) h
  | bl y => cases (show u = Value.bool y from rx); exact PySem.W.kia_one PySem.W.kitx_bool I.kIn True.intro e (fun z => nomatch z) h
  | int i => obtain ⟨t, q⟩ := (show ∃ t, u = Value.int i t from rx); cases q; exact PySem.W.kia_one PySem.W.kitx_int I.kIn True.intro e (fun z => nomatch z) h
  | str y => obtain ⟨t, q⟩ := (show ∃ t, u = Value.str y t from rx); cases q; exact PySem.W.kia_one PySem.W.kitx_str I.kIn True.intro e (fun z => nomatch z) h
  | flt y => obtain ⟨t, q⟩ := (show ∃ t, u = Value.float y t from rx); cases q; exact PySem.W.kia_one PySem.W.kitx_float I.kIn True.intro e (fun z => nomatch z) h
  | @lst a xs ea =>
    cases (show u = Value.ref a from rx)
    obtain ⟨_, _, n, _, h1⟩ := (show ObjOk X.prog X.w H s.heap a (.lst xs) from I.hok a _ ea)
    exact PySem.W.kia_one PySem.W.kitx_list I.kIn ⟨_, h1, rfl⟩ e (fun z => nomatch z) h
  | @frz a ob xs ea =>
    cases (show u = Value.ref a from rx)
    obtain ⟨_, _, _, n, _, h1⟩ := (show ObjOk X.prog X.w H s.heap a (.frz ob (.lst xs)) from I.hok a _ ea)
    exact PySem.W.kia_one PySem.W.kitx_list I.kIn ⟨_, h1, rfl⟩ e (fun z => nomatch z) h
  | @tup a xs ea =>
    cases (show u = Value.ref a from rx)
    obtain ⟨_, _, _, p⟩ := (show ObjOk X.prog X.w H s.heap a (.tup xs) from I.hok a _ ea)
    obtain ⟨o, h1, h2, _⟩ := p
    exact PySem.W.kia_one PySem.W.kitx_tuple I.kIn ⟨o, h1, h2⟩ e (fun z => nomatch z) h
  | @dK a kvs ea =>
    cases (show u = Value.ref a from rx)
    obtain ⟨_, _, vs, _, p⟩ := (show ObjOk X.prog X.w H s.heap a (.dK kvs) from I.hok a _ ea)
    obtain ⟨o, es, ep, h1, h2, _⟩ := p
    exact PySem.W.kia_one PySem.W.kitx_dict I.kIn ⟨o, h1, h2.1⟩ e (fun z => nomatch z) h
  | @dT a kvs ea =>
    cases (show u = Value.ref a from rx)
    obtain ⟨_, _, xs, _, o, es, ep, h1, h2, _⟩ := (show ObjOk X.prog X.w H s.heap a (.dT kvs) from I.hok a _ ea)
    exact PySem.W.kia_one PySem.W.kitx_dict I.kIn ⟨o, h1, h2.1⟩ e (fun z => nomatch z) h
  | @ins a C dx fs ea cl ha hn htk hm =>
    cases (show u = Value.ref a from rx)
    obtain ⟨mA, O, _⟩ := ins_get I.hok ea
    obtain ⟨od, J, _⟩ := O.look
    exact PySem.W.kia_one (PySem.W.kitx_own (cl.get _) cl.hd ha hn htk hm) I.kIn J e (fun z => nomatch z) h
end
end L2

namespace L2
open PySem PySem.Spec PyProof.Rows

/-! ### room -/
structure Room (k : Nat) (A : Around) : Prop where
  hd : A.handled = none
  dp : A.depth + 3 * k + 5 < recursionLimit
  un : A.units + 16 * k + 200 < cLine
theorem Room.mono {j k : Nat} {A : Around} (r : Room k A) (h : j ≤ k) : Room j A := ⟨r.hd, by have := r.dp; omega, by have := r.un; omega⟩
theorem Room.deeper {k : Nat} {A : Around} (r : Room (k + 1) A) (env : Env) : Room k (A.deeper env) :=
  ⟨r.hd, by have := r.dp; show A.depth + 1 + 3 * k + 5 < _; omega, by have := r.un; show A.units + 3 + 16 * k + 200 < _; omega⟩
theorem make_depth {A : Around} {C : Addr} {us : List Value} {kw : List (Str × Value)} : (A.under (.builtin "type.__call__" ⟨.ref C :: us, kw⟩)).depth = A.depth + 1 := by
  first | rfl | simp [Around.under, Code.weight, Code.isCreation, Code.isGuard, Code.isCaller, Code.frames, Code.isFrame, guardIds]
theorem make_units {A : Around} {C : Addr} {us : List Value} {kw : List (Str × Value)} : (A.under (.builtin "type.__call__" ⟨.ref C :: us, kw⟩)).units = A.units + 1 := by
  first | rfl | simp [Around.under, Code.cUnits, Code.frames, Code.isFrame]
theorem Room.make {k : Nat} {A : Around} (r : Room (k + 1) A) (C : Addr) (us : List Value) (kw : List (Str × Value)) : Room k (A.under (.builtin "type.__call__" ⟨.ref C :: us, kw⟩)) :=
  ⟨r.hd, by have := r.dp; rw [make_depth]; omega, by have := r.un; rw [make_units]; omega⟩
theorem Room.depth {k : Nat} {A : Around} (r : Room k A) : A.depth < recursionLimit := by have := r.dp; omega
theorem Room.units {k : Nat} {A : Around} (r : Room k A) : A.units + 64 < cLine := by have := r.un; omega
/-! ### argument lists and displays -/
def tNil : TA := fun _ H Q => Q [] H
def tCons (ta : TE) (tr : TA) : TA := fun σ H Q => ta σ H fun x H1 => tr σ H1 fun xs H2 => Q (x :: xs) H2
section
variable {X : Cx} {e : Expr} {es : List Expr} {te : TE} {t : TA} {pos : Pos}
theorem pa_nil : PA X [] tNil := fun _ _ _ _ H Q I h => Calls.spliced_nil ⟨[], H, I, .nil, h⟩
theorem pa_cons (ha : PE X e te) (hr : PA X es t) (hs : starEach (e :: es) X.env = (false, eval e X.env) :: starEach es X.env := by rfl) : PA X (e :: es) (tCons te t) := by
  intro pos pins s σ H Q I h
  rw [hs]
  show wpAny _ _ (spliced ((false, eval e X.env) :: backTo pos (starEach es X.env))) _ _ s
  refine Calls.spliced_cons (thn (ha pins s σ H _ I h) fun u s1 ⟨x, H1, I1, r1, q1⟩ => ?_)
  exact thn (hr pos pins s1 σ H1 _ I1 q1) fun us s2 ⟨xs, H2, I2, r2, q2⟩ => ⟨x :: xs, H2, I2, .cons r1 r2, q2⟩

/-- a tuple, a list of written items -/
def tTup (t : TA) : TE := fun σ H Q => t σ H fun xs H1 => xs.length ≤ sizeLine ∧ ∀ p, H1 p = none → Q (.ref p) (upd H1 p (.tup xs))
def tLst (t : TA) : TE := fun σ H Q => t σ H fun xs H1 => xs.length ≤ sizeLine ∧ ∀ p, H1 p = none → Q (.ref p) (upd H1 p (.lst xs))
theorem pe_tup {x1} (h : PA X es t) : PE X (.Tuple es x1 pos) (tTup t) := by
  intro pins s σ H Q I hq
  refine wpAny_Tuple_spliced (thn (h pos pins s σ H _ I hq) fun us s1 ⟨xs, H1, I1, r, z, q⟩ => ⟨by rw [← r.length]; exact z, ?_⟩)
  have hf : H1 s1.heap.objs.size = none := I1.hok.fresh (Nat.le_refl _)
  refine ⟨.ref s1.heap.objs.size, upd H1 s1.heap.objs.size (.tup xs), I1.laid (t' := s1.toks) (fun b u e => Heap.get?_push_of_some _ e) (Nat.le_refl _) ?_, rfl, q _ hf⟩
  exact ⟨z, us, r, ⟨_, Heap.get?_push_size _ rfl, rfl, _, rfl⟩⟩
theorem pe_lst (h : PA X es t) : PE X (.List es pos) (tLst t) := by
  intro pins s σ H Q I hq
  refine wpAny_List_spliced (thn (h pos pins s σ H _ I hq) fun us s1 ⟨xs, H1, I1, r, z, q⟩ => ⟨by rw [← r.length]; exact z, ?_⟩)
  have hf : H1 s1.heap.objs.size = none := I1.hok.fresh (Nat.le_refl _)
  refine ⟨.ref s1.heap.objs.size, upd H1 s1.heap.objs.size (.lst xs), I1.laid (t' := s1.toks) (fun b u e => Heap.get?_push_of_some _ e) (Nat.le_refl _) ?_, rfl, q _ hf⟩
  exact ⟨z, us, 0, r, Heap.get?_push_size _ rfl⟩
end

/-! ### what a def promises -/
/-- a def's promise: the bound arguments in the parameters' order, the heap, the wanted end, the wanted exception -/
abbrev Sp := List V → Hp → VK → XK → Prop
/-- how an exception lies behind a call (file 08 gives it): the callers' frames, abstract heap and state ahead of the call, the wish, the exception, the state -/
abbrev CXT := List Env → Hp → Shared → XK → Value → Shared → Prop

/-- the state at a call -/
structure Env0 (P : Program) (w : World) (K : PySem.W.Frag) (mg : Str → Option Value) (base : Heap) (A : Around) (outer : List Env) (s : Shared) (H : Hp) : Prop where
  frames : A.frames = some outer
  mod : Mod K mg base
  bs : ∀ b o, base.get? b = some o → s.heap.get? b = some o ∧ H b = none
  bsz : base.objs.size ≤ s.heap.objs.size
  funs : s.heap.FunFrames base outer
  frf : ∀ b ∈ frs outer, H b = none
  hok : HOk P w H s.heap
  bare : AllBare s.gens
/-- a call's end -/
def CE (outer : List Env) (P : Program) (w : World) (H : Hp) (s : Shared) (Q : VK) (u : Value) (s' : Shared) : Prop :=
  ∃ v H', s'.os = s.os ∧ AllBare s'.gens ∧ Un (frs outer) [] H H' s.heap s'.heap ∧ HOk P w H' s'.heap ∧ RelV v u ∧ Q v H'
def CR (CX : CXT) (outer : List Env) (P : Program) (w : World) (H : Hp) (s : Shared) (Q : VK) (E : XK) (r : Result) (s' : Shared) : Prop :=
  match r with
  | .ok (.ret u) => CE outer P w H s Q u s'
  | .ok _ => False
  | .error e => CX outer H s E e s'
structure FnOk (P : Program) (w : World) (K : PySem.W.Frag) (mg : Str → Option Value) (base : Heap) (CX : CXT) (k : Nat) (f : Addr) (fd : FuncData) (ps : List Str) (sp : Sp) : Prop where
  len : ∀ vs H Q E, sp vs H Q E → vs.length = ps.length
  run : ∀ (A : Around) (outer : List Env) (s : Shared) (H : Hp) (args : Args) (us : List Value) (vs : List V) (Q : VK) (E : XK), Room k A → Env0 P w K mg base A outer s H → BindsTo s fd args (ps.zip us) → Vals vs us → sp vs H Q E →
    codeAny (model P w) A (.call (.ref f) args) (CR CX outer P w H s Q E) s
theorem Env0.make {P : Program} {w : World} {K : PySem.W.Frag} {mg : Str → Option Value} {base : Heap} {A : Around} {outer : List Env} {s : Shared} {H : Hp} (e : Env0 P w K mg base A outer s H) (C : Addr) (us : List Value) (kw : List (Str × Value)) :
    Env0 P w K mg base (A.under (.builtin "type.__call__" ⟨.ref C :: us, kw⟩)) outer s H := ⟨by first | exact e.frames | (simpa [Around.under, Code.envs, Code.isFrame, pushEnvs] using e.frames), e.mod, e.bs, e.bsz, e.funs, e.frf, e.hok, e.bare⟩
section
variable {X : Cx} {pins : List (Addr × Obj)} {σ : St} {H : Hp} {s s' : Shared}
/-- from a body: what a callee wants -/
theorem Inv.env0 (I : Inv X pins σ H s) : Env0 X.prog X.w X.K X.mg X.base X.A X.stack s H :=
  ⟨I.ok.frames, I.ok.mod, I.bs, Nat.le_trans I.ok.bsz I.sz, I.stack, I.stkFree, I.hok, I.bare⟩
/-- behind a call -/
theorem Inv.after {Q : VK} {u : Value} (I : Inv X pins σ H s) (h : CE X.stack X.prog X.w H s Q u s') : EP X pins σ Q u s' := by
  obtain ⟨v, H', os, bare, un, hok, r, q⟩ := h
  obtain ⟨hh, g, d, t, os'⟩ := s'
  obtain rfl : os' = s.os := os
  exact ⟨v, H', I.call (h' := hh) (g' := g) (d' := d) (t' := t) (ch := []) un hok bare (fun b z => absurd z (by simp)), r, q⟩
end

/-! ### calls -/
/-- f(..): the written arguments, then the defaults dvs; E: what is wanted of an exception -/
def tCall (sp : Sp) (dvs : List V) (E : XK) (t : TA) : TE := fun σ H Q => t σ H fun vs H1 => sp (vs ++ dvs) H1 Q E
/-- o.m(..) of an instance of the class at C -/
def tMeth (C : Addr) (m : Str) (sp : Sp) (dvs : List V) (E : XK) (ta : TE) (t : TA) : TE := fun σ H Q => ta σ H fun x H1 => ∃ a dx fs, x = .ref a ∧ H1 a = some (.ins C dx fs) ∧ fs.lookup m = none ∧
  t σ H1 fun vs H2 => sp (x :: (vs ++ dvs)) H2 Q E
/-- C(..): a new instance and its dict, then __init__ -/
def tMake (C : Addr) (sp : Sp) (dvs : List V) (E : XK) (t : TA) : TE := fun σ H Q => t σ H fun vs H1 => ∀ x dx, H1 x = none → H1 dx = none → dx ≠ x →
  sp (.ref x :: (vs ++ dvs)) (upd (upd H1 dx (.own x)) x (.ins C dx [])) (fun v H2 => v = .non ∧ Q (.ref x) H2) E

/-- how the parameters are bound: us the positional arguments, kw the keywords' values by name, ds the defaults that fill up -/
def Binds (K : PySem.W.Frag) (fd : FuncData) (ps : List Str) (ds : List Value) : Prop :=
  ∀ (s : Shared) (us : List Value), K.In s.heap → (us ++ ds).length = ps.length → BindsTo s fd ⟨us, []⟩ (ps.zip (us ++ ds))
/-- every parameter is given -/
theorem Binds.all {K : PySem.W.Frag} {fd : FuncData} {ps : List Str} (h : ∀ us : List Value, us.length = ps.length → bindArgs fd ⟨us, []⟩ = pure (ps.zip us)) : Binds K fd ps [] := fun s us _ hl => by
  rw [List.append_nil] at hl ⊢
  exact .of_eq (h us hl)

/-- an exception of a callee reaches what this body wants of exceptions -/
def Passes (CX : CXT) (X : Cx) (E : XK) : Prop := ∀ (pins : List (Addr × Obj)) (σ : St) (H : Hp) (s : Shared) (e : Value) (s' : Shared), Inv X pins σ H s → CX X.stack H s E e s' → X.xe e s'

section
variable {X : Cx} {CX : CXT} {k : Nat} {f C : Addr} {fd : FuncData} {ps : List Str} {sp : Sp} {dvs : List V} {ds : List Value} {E : XK} {x m : Str} {p pos apos : Pos} {e o : Expr} {es : List Expr} {ta : TE} {t : TA}

/-- the callee runs -/
theorem run_fn {pins : List (Addr × Obj)} {σ : St} {H : Hp} {s : Shared} {Q : VK} {us : List Value} {vs : List V} (F : FnOk X.prog X.w X.K X.mg X.base CX k f fd ps sp) (hr : Room k X.A) (hb : Binds X.K fd ps ds) (hd : Vals dvs ds) (hx : Passes CX X E)
    (I : Inv X pins σ H s) (r : Vals vs us) (h : sp (vs ++ dvs) H Q E) : wpAny (model X.prog X.w) X.A (call (.ref f) us) (EP X pins σ Q) X.xe s := by
  have r2 : Vals (vs ++ dvs) (us ++ ds) := r.append hd
  have hl : (us ++ ds).length = ps.length := by rw [← r2.length]; exact F.len _ _ _ _ h
  refine wpAny_call (codeAny_mono (F.run X.A X.stack s H ⟨us, []⟩ (us ++ ds) (vs ++ dvs) Q E hr I.env0 (hb s us I.kIn hl) r2 h) fun r s' hq => ?_)
  cases r with
  | error e => exact hx pins σ H s e s' I hq
  | ok fl =>
    cases fl with
    | ret u => exact I.after hq
    | next => exact False.elim hq
    | brk => exact False.elim hq
    | cont => exact False.elim hq

theorem pe_call (F : FnOk X.prog X.w X.K X.mg X.base CX k f fd ps sp) (hr : Room k X.A) (hg : Gl X x) (hm : X.mg x = some (.ref f)) (hk : PySem.W.keepIn X.K (.ref f) = true) (hb : Binds X.K fd ps ds) (hd : Vals dvs ds) (hx : Passes CX X E)
    (ha : PA X (e :: es) t) (hdb : (x == ("__debug__" : Str)) = false := by decide) (he : starEach (e :: es) X.env = (false, eval e X.env) :: starEach es X.env := by rfl) (hpl : (backTo pos (starEach es X.env)).any (·.1) = false := by rfl) :
    PE X (.Call (.Name x p) (e :: es) [] pos) (tCall sp dvs E t) := by
  intro pins s σ H Q I h
  refine wpAny_Call_Name_kw (ld_glob I hg hm ?_ hdb)
  refine PySem.W.callWith_K (h₀ := X.base) I.ok.mod.kin hk (thn (ha pos pins s σ H _ I h) fun us s1 ⟨vs, H1, I1, r, q⟩ => ⟨I1.kIn, ?_⟩) he hpl
  exact run_fn F hr hb hd hx I1 r q
/-- o.m(e, ..) -/
theorem pe_meth {pl : Sem Bool} (he : PE X o ta) (c : Cls X.K C) (hm : Meth X.K C m f) (F : FnOk X.prog X.w X.K X.mg X.base CX k f fd ps sp) (hr : Room k X.A) (hb : Binds X.K fd ps ds) (hd : Vals dvs ds) (hx : Passes CX X E) (ha : PA X (e :: es) t)
    (hst : starEach (e :: es) X.env = (false, eval e X.env) :: starEach es X.env := by rfl) (hpl : (backTo pos (starEach es X.env)).any (·.1) = false := by rfl)
    (ht : eval (.Call (.Attribute o m apos) (e :: es) [] pos) X.env = (do
      let ov ← eval o X.env
      standAt apos.atName
      let (f, first) ← holding [ov] (getMethod ov m pl)
      callWith pos f first (backTo pos (starEach (e :: es) X.env)) (backToKw pos (keywordEach [] X.env))) := by rfl) :
    PE X (.Call (.Attribute o m apos) (e :: es) [] pos) (tMeth C m sp dvs E ta t) := by
  intro pins s σ H Q I h
  refine PySem.W.methodCall_KW (pl := pl) (thn (he pins s σ H _ I h) fun u s1 ⟨x, H1, I1, rx, a, dx, fs, ex, ea, l, q⟩ => ?_) ht
  subst ex
  obtain rfl : u = Value.ref a := rx
  refine getmeth_ok I1 ea c hm l ?_
  refine PySem.W.callWith_K (first := [.ref a]) (h₀ := X.base) I.ok.mod.kin hm.kp (thn (ha pos pins s1 σ H1 _ I1 q) fun us s2 ⟨vs, H2, I2, r, q2⟩ => ⟨I2.kIn, ?_⟩) hst hpl
  exact run_fn (us := .ref a :: us) (vs := .ref a :: vs) F hr hb hd hx I2 (.cons rfl r) q2
/-- o.m() -/
theorem pe_meth0 {pl : Sem Bool} (he : PE X o ta) (c : Cls X.K C) (hm : Meth X.K C m f) (F : FnOk X.prog X.w X.K X.mg X.base CX k f fd ps sp) (hr : Room k X.A) (hb : Binds X.K fd ps ds) (hd : Vals dvs ds) (hx : Passes CX X E)
    (ht : eval (.Call (.Attribute o m apos) [] [] pos) X.env = (do
      let ov ← eval o X.env
      standAt apos.atName
      let (f, first) ← holding [ov] (getMethod ov m pl)
      callWith pos f first (backTo pos (starEach [] X.env)) (backToKw pos (keywordEach [] X.env))) := by rfl) :
    PE X (.Call (.Attribute o m apos) [] [] pos) (tMeth C m sp dvs E ta tNil) := by
  intro pins s σ H Q I h
  refine PySem.W.methodCall_KW (pl := pl) (thn (he pins s σ H _ I h) fun u s1 ⟨x, H1, I1, rx, a, dx, fs, ex, ea, l, q⟩ => ?_) ht
  subst ex
  obtain rfl : u = Value.ref a := rx
  refine getmeth_ok I1 ea c hm l ?_
  exact PySem.W.callWith_K0 (first := [.ref a]) I1.kIn hm.kp (run_fn (us := [.ref a]) (vs := [.ref a]) F hr hb hd hx I1 (.cons rfl .nil) q)

/-- what a class must have to be made -/
structure Mk (K : PySem.W.Frag) (C f : Addr) : Prop where
  makes : PySem.W.makesIn K C = true
  init : PySem.W.findIn K (.ref C) "__init__" = some (some (.ref f))
  fn : PySem.W.isFn K (.ref f) = true
  kp : PySem.W.keepIn K (.ref C) = true

theorem run_make {pins : List (Addr × Obj)} {σ : St} {H : Hp} {s : Shared} {Q : VK} {us : List Value} {vs : List V} (M : Mk X.K C f) (F : FnOk X.prog X.w X.K X.mg X.base CX k f fd ps sp) (hr : Room (k + 1) X.A) (hb : Binds X.K fd ps ds) (hd : Vals dvs ds)
    (hx : Passes CX X E) (I : Inv X pins σ H s) (r : Vals vs us)
    (h : ∀ x dx, H x = none → H dx = none → dx ≠ x → sp (.ref x :: (vs ++ dvs)) (upd (upd H dx (.own x)) x (.ins C dx [])) (fun v H2 => v = .non ∧ Q (.ref x) H2) E) :
    wpAny (model X.prog X.w) X.A (call (.ref C) us) (EP X pins σ Q) X.xe s := by
  have hq := h (s.heap.objs.size + 1) s.heap.objs.size (I.hok.fresh (Nat.le_succ _)) (I.hok.fresh (Nat.le_refl _)) (Nat.ne_of_lt (Nat.lt_succ_self _))
  have I2 := Inv.made (C := C) I
  have r2 : Vals (V.ref (s.heap.objs.size + 1) :: (vs ++ dvs)) (Value.ref (s.heap.objs.size + 1) :: (us ++ ds)) := .cons rfl (r.append hd)
  have hl : (Value.ref (s.heap.objs.size + 1) :: us ++ ds).length = ps.length := by
    have e := r2.length
    rw [F.len _ _ _ _ hq] at e
    exact e.symm
  refine wpAny_call (make_map (f := f) I.kIn M.makes M.init (beq_iff_eq.mp M.fn) (codeAny_mono (F.run _ X.stack _ _ ⟨Value.ref (s.heap.objs.size + 1) :: us, []⟩ (Value.ref (s.heap.objs.size + 1) :: (us ++ ds)) _ _ E (hr.make C us [])
    (I2.env0.make C us []) (hb _ (Value.ref (s.heap.objs.size + 1) :: us) I2.kIn hl) r2 hq) fun r s' hq' => ?_))
  cases r with
  | error e => exact hx pins σ _ _ e s' I2 hq'
  | ok fl =>
    cases fl with
    | ret u =>
      obtain ⟨v, H', I3, rv, ev, q3⟩ := I2.after hq'
      subst ev
      exact ⟨rv, ⟨V.ref (s.heap.objs.size + 1), H', I3, rfl, q3⟩⟩
    | next => exact False.elim hq'
    | brk => exact False.elim hq'
    | cont => exact False.elim hq'
theorem pe_make (M : Mk X.K C f) (F : FnOk X.prog X.w X.K X.mg X.base CX k f fd ps sp) (hr : Room (k + 1) X.A) (hg : Gl X x) (hm : X.mg x = some (.ref C)) (hb : Binds X.K fd ps ds) (hd : Vals dvs ds) (hx : Passes CX X E)
    (ha : PA X (e :: es) t) (hdb : (x == ("__debug__" : Str)) = false := by decide) (he : starEach (e :: es) X.env = (false, eval e X.env) :: starEach es X.env := by rfl) (hpl : (backTo pos (starEach es X.env)).any (·.1) = false := by rfl) :
    PE X (.Call (.Name x p) (e :: es) [] pos) (tMake C sp dvs E t) := by
  intro pins s σ H Q I h
  refine wpAny_Call_Name_kw (ld_glob I hg hm ?_ hdb)
  refine PySem.W.callWith_K (h₀ := X.base) I.ok.mod.kin M.kp (thn (ha pos pins s σ H _ I h) fun us s1 ⟨vs, H1, I1, r, q⟩ => ⟨I1.kIn, ?_⟩) he hpl
  exact run_make M F hr hb hd hx I1 r q
end

/-! ### keywords -/
section
end

/-! ### a def's body keeps its promise -/
/-- names: the parameters first -/
structure FnScope (N P : List Str) (sc : Scope) : Prop where
  kind : sc.kind = .function
  co : sc.isCoroutine = false
  gen : sc.isGenerator = false
  nd : N.Nodup
  pre : N.take P.length = P
  par : ∀ x ∈ P, sc.names.lookup x = some .local ∨ sc.names.lookup x = some .cell
  nofree : ∀ y ∈ sc.names, y.2 ≠ .free

theorem bindL_out {kindOf : Str → Option NameKind} {x : Str} : ∀ {binds : List (Str × Value)} {m : Str → Option Value}, (∀ v, (x, v) ∉ binds) → bindL kindOf binds m x = m x
  | [], _, _ => rfl
  | (n, v) :: r, m, h => by
    unfold bindL
    rw [bindL_out fun w hw => h w (List.mem_cons_of_mem _ hw)]
    split
    · have : x ≠ n := by rintro rfl; exact h v List.mem_cons_self
      simp [this]
    · rfl
theorem bindC_out {kindOf : Str → Option NameKind} {x : Str} : ∀ {binds : List (Str × Value)} {m : Str → Option Value}, (∀ v, (x, v) ∉ binds) → bindC kindOf binds m x = m x
  | [], _, _ => rfl
  | (n, v) :: r, m, h => by
    unfold bindC
    rw [bindC_out fun w hw => h w (List.mem_cons_of_mem _ hw)]
    split
    · rfl
    · have : x ≠ n := by rintro rfl; exact h v List.mem_cons_self
      simp [this]
theorem bindL_get {kindOf : Str → Option NameKind} {x : Str} {v : Value} : ∀ {P : List Str} {vs : List Value} {i : Nat} {m : Str → Option Value}, P.Nodup → P[i]? = some x → vs[i]? = some v → kindOf x = some .local →
    bindL kindOf (P.zip vs) m x = some v
  | [], _, _, _, _, h, _, _ => by simp at h
  | _ :: _, [], _, _, _, _, h, _ => by simp at h
  | p :: P, w :: vs, 0, m, nd, h1, h2, hk => by
    simp at h1 h2; subst h1; subst h2
    show bindL kindOf ((p, w) :: P.zip vs) m p = _
    unfold bindL
    rw [bindL_out fun v hv => (List.nodup_cons.mp nd).1 (List.of_mem_zip hv).1, if_pos hk]
    simp
  | p :: P, w :: vs, i + 1, m, nd, h1, h2, hk => by
    show bindL kindOf ((p, w) :: P.zip vs) m x = _
    unfold bindL
    exact bindL_get (i := i) (List.nodup_cons.mp nd).2 (by simpa using h1) (by simpa using h2) hk
theorem bindC_get {kindOf : Str → Option NameKind} {x : Str} {v : Value} : ∀ {P : List Str} {vs : List Value} {i : Nat} {m : Str → Option Value}, P.Nodup → P[i]? = some x → vs[i]? = some v → kindOf x ≠ some .local →
    bindC kindOf (P.zip vs) m x = some v
  | [], _, _, _, _, h, _, _ => by simp at h
  | _ :: _, [], _, _, _, _, h, _ => by simp at h
  | p :: P, w :: vs, 0, m, nd, h1, h2, hk => by
    simp at h1 h2; subst h1; subst h2
    show bindC kindOf ((p, w) :: P.zip vs) m p = _
    unfold bindC
    rw [bindC_out fun v hv => (List.nodup_cons.mp nd).1 (List.of_mem_zip hv).1, if_neg hk]
    simp
  | p :: P, w :: vs, i + 1, m, nd, h1, h2, hk => by
    show bindC kindOf ((p, w) :: P.zip vs) m x = _
    unfold bindC
    exact bindC_get (i := i) (List.nodup_cons.mp nd).2 (by simpa using h1) (by simpa using h2) hk

/-- the names' values at the entry -/
def start (N : List Str) (vs : List V) : St := vs.map some ++ List.replicate (N.length - vs.length) none

/-- the context of a def's body, at its entry; an exception leaves the frame, then lies as CX says -/
def cxOf (CX : CXT) (P : Program) (w : World) (K : PySem.W.Frag) (mg : Str → Option Value) (base : Heap) (N : List Str) (qual : Str) (scope : Scope) (f : Addr) (cd : Value) (A : Around) (outer : List Env) (s : Shared) (H : Hp) (E : XK) : Cx where
  prog := P
  w := w
  K := K
  mg := mg
  base := base
  A := A.deeper (envOfC qual scope s.heap.objs.size f cd)
  N := N
  s₀ := s
  H₀ := H
  env := envOfC qual scope s.heap.objs.size f cd
  outer := outer
  stack := envOfC qual scope s.heap.objs.size f cd :: outer
  ex := []
  calm := true
  fn := fun _ => true
  pn := []
  xe := fun e s' => wpAny (model P w) (A.deeper (envOfC qual scope s.heap.objs.size f cd)) (leaving (envOfC qual scope s.heap.objs.size f cd) e) (fun _ s'' => CX outer H s E e s'') (fun e' s'' => CX outer H s E e' s'') s'

theorem cell_has {sc : Scope} {n : Nat} {x : Str} (h : sc.names.lookup x = some .cell) : ∃ c, (cellsFrom n sc.names []).lookup x = some c := by
  have q := PySem.W.cellsFrom_some sc.names n [] (.inl h)
  exact Option.isSome_iff_exists.mp q

theorem inv_start {CX : CXT} {P : Program} {w : World} {K : PySem.W.Frag} {mg : Str → Option Value} {base : Heap} {N ps : List Str} {qual : Str} {scope : Scope} {f : Addr} {cd : Value} {A : Around} {outer : List Env} {s s1 : Shared} {H : Hp} {E : XK} {us : List Value} {vs : List V}
    (S : FnScope N ps scope) (hd : A.handled = none) (e0 : Env0 P w K mg base A outer s H) (hl : vs.length = ps.length) (r : Vals vs us)
    (x : InCallC s s.heap.objs.size (bindL (envOfC qual scope s.heap.objs.size f cd).kindOf (ps.zip us) fun _ => none) (cellsFrom (s.heap.objs.size + 1) scope.names []) (bindC (envOfC qual scope s.heap.objs.size f cd).kindOf (ps.zip us) fun _ => none) s1) :
    Inv (cxOf CX P w K mg base N qual scope f cd A outer s H E) [] (start N vs) H s1 := by
  have hpl : ps.length ≤ N.length := by have := congrArg List.length S.pre; rw [List.length_take] at this; omega
  obtain ⟨h1, tk, rfl, hk⟩ := x.done
  have noA : ∀ b : Addr, b ∉ (cxOf CX P w K mg base N qual scope f cd A outer s H E).ex := fun b z => absurd (show b ∈ ([] : List Addr) from z) (by simp)
  refine ⟨⟨e0.mod, S.kind, rfl, rfl, Nat.le_refl _, fun y z c h1 h2 => ?_, fun y hy => ?_, fun y c _ h => ?_, fun _ => hd, Around.frames_deeper e0.frames, .inr ⟨rfl, rfl⟩, fun b z => absurd z (noA b), e0.bs, e0.bsz, fun b _ _ => noA b, fun b z => absurd z (noA b), e0.funs, e0.frf⟩,
    rfl, e0.bare, Un.kept hk, ⟨_, x.toInCall.ns, fun i y v h1 h2 h3 => ?_⟩, fun y c h => ⟨_, x.cell y c h⟩, e0.hok.fresh (Nat.le_refl _), fun y c h => ?_, fun p hp => absurd (show p ∈ ([] : List (Addr × Obj)) from hp) (by simp), e0.hok.kept hk, ?_⟩
  · exact name_of_addr x.apart (PySem.mem_of_lookup h1) (PySem.mem_of_lookup h2)
  · have hy : scope.names.lookup y = some .cell ∨ scope.names.lookup y = some .free := hy
    rcases hy with hy | hy
    · exact cell_has hy
    · exact absurd rfl (S.nofree _ (PySem.mem_of_lookup hy))
  · exact Nat.le_of_lt (x.above y c (PySem.mem_of_lookup h))
  · have hi : i < vs.length := by
      unfold start at h2
      by_cases hi : i < vs.length
      · exact hi
      · rw [List.getElem?_append_right (by simpa using hi)] at h2
        rw [List.getElem?_replicate] at h2
        split at h2 <;> cases h2
    have ha : vs[i]? = some v := by
      unfold start at h2
      rw [List.getElem?_append_left (by simpa using hi), List.getElem?_map] at h2
      cases e : vs[i]? with
      | none => rw [e] at h2; cases h2
      | some a => rw [e] at h2; cases h2; rfl
    obtain ⟨u, hu, rv⟩ := r.get ha
    have hp : ps[i]? = some y := by
      rw [← S.pre, List.getElem?_take_of_lt (by omega)]; exact h1
    have ndP : ps.Nodup := by rw [← S.pre]; exact S.nd.sublist (List.take_sublist _ _)
    refine ⟨u, rv, ?_⟩
    rcases S.par y (List.mem_of_getElem? hp) with k | k
    · exact .inl ⟨k, bindL_get ndP hp hu k⟩
    · obtain ⟨c, e⟩ := cell_has (n := s.heap.objs.size + 1) k
      refine .inr ⟨.inl k, c, e, ?_⟩
      have q := x.cell y c e
      rw [bindC_get ndP hp hu (by show scope.names.lookup y ≠ _; rw [k]; decide)] at q
      exact q
  · exact e0.hok.fresh (Nat.le_of_lt (x.above y c (PySem.mem_of_lookup h)))
  · unfold start
    show _ = N.length
    rw [List.length_append, List.length_map, List.length_replicate]
    omega

/-- THE RULE: a def (or a method) of the text, by its body. The body's reading t is chosen for each entry; it is run at the parameters' values -/
theorem fn_of {CX : CXT} {P : Program} {w : World} {K : PySem.W.Frag} {mg : Str → Option Value} {base : Heap} {k : Nat} {f : Addr} {name qual : Str} {params : Arguments} {body : List Stmt} {scope : Scope} {dV kV doc pm cdv ct oc : Value} {an od : Option Addr}
    {osl : Array (Option Value)} {N ps : List Str} {sp : Sp} (lk : K.lookup f = some ⟨oc, od, .func (PySem.W.fnOf name qual params body scope dV kV doc pm an cdv ct), osl⟩) (hcd : PySem.W.codeIn K cdv qual = true) (S : FnScope N ps scope)
    (len : ∀ vs H Q E, sp vs H Q E → vs.length = ps.length)
    (hbody : ∀ (A : Around) (outer : List Env) (s : Shared) (H : Hp) (vs : List V) (Q : VK) (E : XK), Room k (A.deeper (envOfC qual scope s.heap.objs.size f cdv)) → sp vs H Q E →
      ∃ t, PSs (cxOf CX P w K mg base N qual scope f cdv A outer s H E) body t ∧ t { nx := fun _ H' => Q .non H', rt := Q } (start N vs) H) :
    FnOk P w K mg base CX (k + 1) f (PySem.W.fnOf name qual params body scope dV kV doc pm an cdv ct) ps sp := by
  refine ⟨len, fun A outer s H args us vs Q E hr e0 hb r hsp => ?_⟩
  have hl := len _ _ _ _ hsp
  have KX : K.In s.heap := e0.mod.kin.keeps fun b o e => (e0.bs b o e).1
  have lim : s.heap.NoLimit := e0.mod.nolimit.keeps fun b o e => (e0.bs b o e).1
  have hkind : ∀ y ∈ ps.zip us, scope.names.lookup y.1 = some .local ∨ (scope.names.lookup y.1 = some .cell ∧ ((cellsFrom (s.heap.objs.size + 1) scope.names []).lookup y.1).isSome = true) := fun ⟨n, v⟩ hy => by
    rcases S.par n (List.of_mem_zip hy).1 with q | q
    · exact .inl q
    · exact .inr ⟨q, PySem.W.cellsFrom_some _ _ _ (.inl q)⟩
  refine codeAny_call_function hr.depth (KX _ _ lk) rfl S.co S.gen rfl (PySem.W.codeRec_of KX hcd) (hb _ _ _ _ ?_)
  refine wpAny_newFunctionEnv_cells S.kind hkind fun env he s1 x => ?_
  subst he
  refine ⟨lim.keeps x.toInCall.keep, codeAny_func ?_⟩
  obtain ⟨t, ht, hq⟩ := hbody A outer s H vs Q E (hr.deeper _) hsp
  have I : Inv (cxOf CX P w K mg base N qual scope f cdv A outer s H E) [] (start N vs) H s1 := inv_start S hr.hd e0 hl r x
  refine wpAny_mono (ht [] s1 (start N vs) H _ I hq) (fun fl s' hs => ?_) fun e s' hs => hs
  have fin : ∀ {σ' : St} {H' : Hp} {v : V} {u : Value}, Inv (cxOf CX P w K mg base N qual scope f cdv A outer s H E) [] σ' H' s' → RelV v u → Q v H' → CE outer P w H s Q u s' :=
    fun {σ' H' v u} J rv q => ⟨v, H', J.os, J.bare, J.base, J.hok, rv, q⟩
  cases fl with
  | ret u =>
    obtain ⟨v, σ', H', J, rv, q⟩ := hs
    exact fin J rv q
  | next =>
    obtain ⟨σ', H', J, q⟩ := hs
    exact fin (v := V.non) (u := Value.none) J rfl q
  | brk =>
    obtain ⟨_, _, _, q⟩ := hs
    exact False.elim q
  | cont =>
    obtain ⟨_, _, _, q⟩ := hs
    exact False.elim q
end L2

namespace L2
open PySem PySem.Spec PyProof.Rows
section
variable {X : Cx} {x : Str} {p pos : Pos} {e : Expr} {es : List Expr} {t : TA} {id T : String} {r : List V → Hp → VK → Prop}

def tCB (r : List V → Hp → VK → Prop) (t : TA) : TE := fun σ H Q => t σ H fun vs H1 => r vs H1 Q
/-- f(e, ..), f a built-in function -/
theorem pe_callB (hc : CallR X (.builtin id) r) (hg : Gl X x) (hm : X.mg x = none) (hv : bootBuiltins x = some (.builtin id)) (ha : PA X (e :: es) t) (hn : x ≠ "__name__" := by decide) (hdb : (x == ("__debug__" : Str)) = false := by decide)
    (he : starEach (e :: es) X.env = (false, eval e X.env) :: starEach es X.env := by rfl) (hpl : (backTo pos (starEach es X.env)).any (·.1) = false := by rfl) : PE X (.Call (.Name x p) (e :: es) [] pos) (tCB r t) := by
  intro pins s σ H Q I h
  refine wpAny_Call_Name_kw (ld_blt I hg hm hv ?_ hn hdb)
  exact PyProof.Rows.callWith_builtin1 (thn (ha pos pins s σ H _ I h) fun us s1 ⟨vs, H1, I1, r1, q1⟩ => hc pins s1 σ H1 vs us Q I1 r1 q1) he hpl
/-- T(e, ..), T a built-in type -/
theorem pe_callTy (hc : CallR X (.type T) r) (hg : Gl X x) (hm : X.mg x = none) (hv : bootBuiltins x = some (.type T)) (ha : PA X (e :: es) t) (hn : x ≠ "__name__" := by decide) (hdb : (x == ("__debug__" : Str)) = false := by decide)
    (he : starEach (e :: es) X.env = (false, eval e X.env) :: starEach es X.env := by rfl) (hpl : (backTo pos (starEach es X.env)).any (·.1) = false := by rfl) : PE X (.Call (.Name x p) (e :: es) [] pos) (tCB r t) := by
  intro pins s σ H Q I h
  refine wpAny_Call_Name_kw (ld_blt I hg hm hv ?_ hn hdb)
  exact PyProof.Rows.callWith_type1 (thn (ha pos pins s σ H _ I h) fun us s1 ⟨vs, H1, I1, r1, q1⟩ => hc pins s1 σ H1 vs us Q I1 r1 q1) he hpl
end
end L2

namespace HT
open PySem PyProof.Rows

section
open PySem.SeqAt
open PySem.AutoSeq1 (wpAny_loadPart')
open PySem.MeetsSeq PySem.MeetsSeq2 PySem.MeetsSeq3

end

section
variable {prog : Program} {w : World} {A : Around} {E : Value → Shared → Prop} {s : Shared}

/-! ### t[a:b], not the whole -/
/-- a slice's bound as a place among n (d where it is left out) -/
def sIx (n d : Nat) : Option Int → Nat
  | none => d
  | some v => if v < 0 then (v + (n : Int)).toNat else min v.toNat n
theorem sIx_none (n d : Nat) : sIx n d none = d := rfl
theorem sIx_nat (n d k : Nat) : sIx n d (some (k : Int)) = min k n := by
  show (if (k : Int) < 0 then ((k : Int) + (n : Int)).toNat else min (k : Int).toNat n) = min k n
  rw [if_neg (by omega), Int.toNat_natCast]
theorem sIx_le (n d : Nat) (hd : d ≤ n) (o : Option Int) : sIx n d o ≤ n := by
  cases o with
  | none => exact hd
  | some v =>
    show (if v < 0 then (v + (n : Int)).toNat else min v.toNat n) ≤ n
    by_cases hv : v < 0
    · rw [if_pos hv]; omega
    · rw [if_neg hv]; exact Nat.min_le_right _ _
theorem clip_eq (v : Int) (n d : Nat) : (if v < 0 then max (v + (n : Int)) 0 else min v (n : Int)) = ((sIx n d (some v) : Nat) : Int) := by
  show (if v < 0 then max (v + (n : Int)) 0 else min v (n : Int)) = (((if v < 0 then (v + (n : Int)).toNat else min v.toNat n) : Nat) : Int)
  by_cases hv : v < 0
  · simp only [if_pos hv]; omega
  · simp only [if_neg hv]; omega
theorem adjust_gen (lo hi : Option Int) (n : Nat) : Builtin.Slice.sliceAdjust lo hi 1 (n : Int) = (((sIx n 0 lo : Nat) : Int), ((sIx n n hi : Nat) : Int)) := by
  have h1 : ¬ ((1 : Int) < 0) := by omega
  unfold Builtin.Slice.sliceAdjust
  simp only [h1, if_false]
  refine Prod.ext ?_ ?_
  · cases lo with
    | none => rfl
    | some v => exact clip_eq v n 0
  · cases hi with
    | none => rfl
    | some v => exact clip_eq v n n
theorem places_gen (i j : Nat) : Builtin.Slice.slicePlaces (i : Int) (j : Int) 1 = j - i := by
  unfold Builtin.Slice.slicePlaces
  have h1 : (1 : Int) > 0 := by omega
  simp only [h1, if_true, Int.ediv_one]
  split <;> omega
theorem slicePart_ {v : Value} {o : Option Int} {Q : Option Int → Shared → Prop} (p : IsPart v o) (h : Q o s) : wpAny (model prog w) A (Builtin.Slice.slicePartIndex v) Q E s := by
  cases p with
  | none => exact slicePart_none h
  | int i t => exact slicePart_int h
theorem sliceApplied_gen {sl : Addr} {vl vu : Value} {lo hi : Option Int} {n : Nat} {Q : Int × Int × Nat → Shared → Prop} (hs : s.heap.IsSliceOf sl vl vu .none) (pl : IsPart vl lo) (pu : IsPart vu hi)
    (h : Q (((sIx n 0 lo : Nat) : Int), 1, sIx n n hi - sIx n 0 lo) s) : wpAny (model prog w) A (Builtin.Slice.sliceApplied (.ref sl) (pure (n : Int))) Q E s := by
  obtain ⟨os, hos, hcs, hds⟩ := id hs
  unfold Builtin.Slice.sliceApplied Builtin.Slice.sliceFields
  refine wpAny_bind (wpAny_bind (wpAny_field hos hds (x := vl) rfl (wpAny_bind (wpAny_field hos hds (x := vu) rfl (wpAny_bind (wpAny_field hos hds (x := .none) rfl (wpAny_pure ?_)))))))
  refine wpAny_bind (slicePart_none ?_)
  show wpAny _ _ (if ((1 : Int) == 0) = true then _ else _) _ _ s
  rw [if_neg (by decide)]
  refine wpAny_bind (slicePart_ pl (wpAny_bind (slicePart_ pu (wpAny_bind (wpAny_pure ?_)))))
  show wpAny _ _ (match Builtin.Slice.sliceAdjust lo hi 1 (n : Int) with | (lo, hi) => pure (lo, (1 : Int), Builtin.Slice.slicePlaces lo hi 1)) _ _ s
  rw [adjust_gen lo hi n]
  show wpAny _ _ (pure (((sIx n 0 lo : Nat) : Int), (1 : Int), Builtin.Slice.slicePlaces ((sIx n 0 lo : Nat) : Int) ((sIx n n hi : Nat) : Int) 1)) _ _ s
  rw [places_gen]
  exact wpAny_pure h
theorem pick_gen (xs : Array Value) (i k : Nat) : ((List.range k).filterMap fun (m : Nat) => xs[((i : Int) + (m : Int) * 1).toNat]?).toArray = ((xs.toList.drop i).take k).toArray := by
  have e : (fun (m : Nat) => xs[((i : Int) + (m : Int) * 1).toNat]?) = fun m => xs[i + m]? := by
    funext m
    have : ((i : Int) + (m : Int) * 1).toNat = i + m := by omega
    rw [this]
  rw [e]
  have := pick_run xs i k
  rw [List.filterMap_map] at this
  have e2 : ((fun x => xs[x]?) ∘ fun x => i + x) = fun m => xs[i + m]? := rfl
  rw [e2] at this
  rw [this]

theorem getItem_tuple_cut {t sl : Addr} {items : Array Value} {vl vu : Value} {lo hi : Option Int} {Q : Value → Shared → Prop} (ht : IsTup s.heap t items) (hs : s.heap.IsSliceOf sl vl vu .none) (pl : IsPart vl lo) (pu : IsPart vu hi)
    (hw : ¬ (sIx items.size 0 lo = 0 ∧ sIx items.size items.size hi = items.size))
    (h : Q (.ref s.heap.objs.size) { s with heap := s.heap.push { cls := .type "tuple", data := .seq ((items.toList.drop (sIx items.size 0 lo)).take (sIx items.size items.size hi - sIx items.size 0 lo)).toArray } })
    (hsz : items.size ≤ sizeLine) : wpAny (model prog w) A (getItem (.ref t) (.ref sl)) Q E s := by
  have htake : sizeOk (.seq ((items.toList.drop (sIx items.size 0 lo)).take (sIx items.size items.size hi - sIx items.size 0 lo)).toArray) := by
    show ((items.toList.drop (sIx items.size 0 lo)).take (sIx items.size items.size hi - sIx items.size 0 lo)).toArray.size ≤ sizeLine
    rw [List.size_toArray, List.length_take, List.length_drop, Array.length_toList]
    omega
  have hj : sIx items.size items.size hi ≤ items.size := sIx_le _ _ (Nat.le_refl _) hi
  obtain ⟨os, hos, hcs, hds⟩ := id hs
  have hTs : s.TypeIs (.ref sl) "slice" := ⟨os, hos, hcs⟩
  unfold getItem
  try with_reducible refine wpAny_holding ?_
  first | refine wpAny_bind (wpAny_pure ?_) | skip
  refine wpAny_bind (wpAny_sequenceKey ht.typeIs (by decide) ?_)
  refine wpAny_bind (wpAny_callSpecial?_slot (name := Str.ofString "__getitem__") ht.typeIs PyProof.Rows.slot_tuple_getitem
    (wpAny_call_entry PyProof.Rows.slot_tuple_getitem ht.typeIs entry_tuple_getitem ?_ (args_tuple_getitem _ _)))
  show wpAny _ _ (Builtin.Tuple.tupleItemsOf (.ref t) >>= _) _ _ s
  refine wpAny_bind (tupleItemsOf_ ht ?_)
  refine wpAny_bind (wpAny_typeOf hTs ?_)
  rw [if_pos (by decide)]
  refine wpAny_bind (sliceApplied_gen hs pl pu ?_)
  have hno : ¬ ((((sIx items.size 0 lo : Nat) : Int) == 0 && (1 : Int) == 1 && (sIx items.size items.size hi - sIx items.size 0 lo) == items.size) = true) := by
    intro q
    rw [Bool.and_eq_true, Bool.and_eq_true] at q
    have q1 : ((sIx items.size 0 lo : Nat) : Int) = 0 := eq_of_beq q.1.1
    have q2 : sIx items.size items.size hi - sIx items.size 0 lo = items.size := eq_of_beq q.2
    exact hw ⟨by omega, by omega⟩
  show wpAny _ _ (if (((sIx items.size 0 lo : Nat) : Int) == 0 && (1 : Int) == 1 && (sIx items.size items.size hi - sIx items.size 0 lo) == items.size) = true then _ else _) _ _ s
  rw [if_neg hno, pick_gen]
  first
    | exact wpAny_bind (m := Builtin.Tuple.tupleExact _) (wpAny_newObj_type (wpAny_pure ⟨_, rfl, wpAny_pure h⟩) htake)
    | exact wpAny_bind (m := Builtin.Tuple.tupleExact _) (wpAny_newObj_type (wpAny_bind (wpAny_pure (wpAny_pure ⟨_, rfl, wpAny_pure h⟩))) htake)
    | exact wpAny_bind (wpAny_bind (m := Builtin.Tuple.tupleExact _) (wpAny_newObj_type (wpAny_pure (wpAny_pure ⟨_, rfl, wpAny_pure h⟩)) htake))
    | exact wpAny_bind (wpAny_bind (m := Builtin.Tuple.tupleExact _) (wpAny_newObj_type (wpAny_pure ⟨_, rfl, wpAny_pure h⟩) htake))
end
end HT

namespace L2
open PySem PySem.Spec PyProof.Rows

/-! ### the parts of a slice -/
abbrev TO := St → Hp → (Option Int → Hp → Prop) → Prop
/-- a slice's part (left out, or an int) -/
def PO (X : Cx) (e : Option Expr) (t : TO) : Prop :=
  ∀ (pins : List (Addr × Obj)) (s : Shared) (σ : St) (H : Hp) (Q : Option Int → Hp → Prop), Inv X pins σ H s → t σ H Q →
    wpAny (model X.prog X.w) X.A (evalPart e X.env) (fun u s' => ∃ o H', Inv X pins σ H' s' ∧ IsPart u o ∧ Q o H') X.xe s
def tNoPart : TO := fun _ H Q => Q none H
def tPart (t : TE) : TO := fun σ H Q => t σ H fun x H1 => ∃ i, x = .int i ∧ Q (some i) H1

section
variable {X : Cx} {e : Expr} {te : TE} {lo hi : Option Expr} {tl th : TO} {pos p2 : Pos}

theorem po_none : PO X none tNoPart := by
  intro pins s σ H Q I h
  rw [evalPart_none]
  exact wpAny_pure ⟨none, H, I, .none, h⟩
theorem po_some (h : PE X e te) : PO X (some e) (tPart te) := by
  intro pins s σ H Q I hw
  rw [evalPart_some]
  refine thn (h pins s σ H _ I hw) fun u s1 ⟨x, H1, I1, r1, q1⟩ => ?_
  obtain ⟨i, rfl, q⟩ := q1
  obtain ⟨t, rfl⟩ := r1
  exact ⟨some i, H1, I1, .int i t, q⟩

/-- what a slice of a value is, by values: the slice object stands at sl -/
def SlR (X : Cx) (r : V → Option Int → Option Int → Hp → VK → Prop) : Prop :=
  ∀ (pins : List (Addr × Obj)) (s : Shared) (σ : St) (H : Hp) (x : V) (v vl vu : Value) (lo hi : Option Int) (sl : Addr) (Q : VK), Inv X pins σ H s → RelV x v → s.heap.IsSliceOf sl vl vu .none → IsPart vl lo → IsPart vu hi → r x lo hi H Q →
    ∃ T id, typeLookup (.type T) "__getitem__" = pure (some (.builtin id)) ∧ s.TypeIs v T ∧ wpAny (model X.prog X.w) X.A (getItem v (.ref sl)) (EP X pins σ Q) X.xe s
def tSl (r : V → Option Int → Option Int → Hp → VK → Prop) (te : TE) (tl th : TO) : TE := fun σ H Q => te σ H fun x H1 => tl σ H1 fun l H2 => th σ H2 fun u H3 => r x l u H3 Q
/-- a[lo:hi], any a -/
theorem pe_slice {r : V → Option Int → Option Int → Hp → VK → Prop} (hr : SlR X r) (he : PE X e te) (hl : PO X lo tl) (hu : PO X hi th) : PE X (.Subscript e (.Slice lo hi none p2) pos) (tSl r te tl th) := by
  intro pins s σ H Q I h
  refine Subscript_ (thn (he pins s σ H _ I h) fun v s1 ⟨x, H1, I1, r1, q1⟩ => ?_)
  refine wpAny_Slice (thn (hl pins s1 σ H1 _ I1 q1) fun vl s2 ⟨l, H2, I2, pl, q2⟩ => thn (hu pins s2 σ H2 _ I2 q2) fun vu s3 ⟨u, H3, I3, pu, q3⟩ => ?_)
  rw [evalPart_none]
  refine wpAny_pure ?_
  have I4 : Inv X pins σ H3 { s3 with heap := s3.heap.push { cls := .type "slice", data := .fields #[vl, vu, .none] } } := I3.kept (t' := s3.toks) fun b ob q => Heap.get?_push_of_some _ q
  obtain ⟨T, id, hT, ht, hg⟩ := hr pins { s3 with heap := s3.heap.push { cls := .type "slice", data := .fields #[vl, vu, .none] } } σ H3 x v vl vu l u s3.heap.objs.size Q I4 r1 (Heap.IsSliceOf.new ..) pl pu q3
  show wpAny (model X.prog X.w) X.A (subscriptTail e (.Slice lo hi none p2) v (.ref s3.heap.objs.size)) (EP X pins σ Q) X.xe { s3 with heap := s3.heap.push { cls := .type "slice", data := .fields #[vl, vu, .none] } }
  exact tail_any (ops := [.ref s3.heap.objs.size, v]) ht hT hg (by with_unfolding_all rfl)

/-- the items of xs[lo:hi] -/
def cutV (xs : List V) (lo hi : Option Int) : List V := (xs.drop (HT.sIx xs.length 0 lo)).take (HT.sIx xs.length xs.length hi - HT.sIx xs.length 0 lo)
theorem cutV_length (xs : List V) (lo hi : Option Int) : (cutV xs lo hi).length ≤ xs.length := by
  unfold cutV
  rw [List.length_take, List.length_drop]
  omega
/-- t[lo:hi], not the whole of it (the whole would be t itself) -/
def rSlT (K : PySem.W.Frag) : V → Option Int → Option Int → Hp → VK → Prop := fun x lo hi H Q => ∃ a xs, x = .ref a ∧ SqT K H a xs ∧
  ¬ (HT.sIx xs.length 0 lo = 0 ∧ HT.sIx xs.length xs.length hi = xs.length) ∧ ∀ p, H p = none → Q (.ref p) (upd H p (.tup (cutV xs lo hi)))
theorem sl_tup : SlR X (rSlT X.K) := by
  intro pins s σ H x v vl vu lo hi sl Q I rx hs pl pu h
  obtain ⟨a, xs, rfl, hx, hw, q⟩ := h
  cases rx
  obtain ⟨its, r, ht, hz⟩ := I.tuple hx
  have hlen : its.toArray.size = xs.length := by rw [List.size_toArray]; exact r.length.symm
  refine ⟨"tuple", _, PyProof.Rows.slot_tuple_getitem.lookup, ht.typeIs, ?_⟩
  refine HT.getItem_tuple_cut ht hs pl pu (by rw [hlen]; exact hw) ?_ (by rw [hlen]; exact hz)
  rw [hlen]
  refine ⟨.ref s.heap.objs.size, _, I.laid (t' := s.toks) (o := .tup (cutV xs lo hi)) (fun b ob q => Heap.get?_push_of_some _ q) (Nat.le_refl _) ?_, rfl, q _ (I.hok.fresh (Nat.le_refl _))⟩
  exact ⟨Nat.le_trans (cutV_length xs lo hi) hz, _, (r.drop (HT.sIx xs.length 0 lo)).take (HT.sIx xs.length xs.length hi - HT.sIx xs.length 0 lo), IsTup.new _ _⟩

/-! ### t < u, t + u -/
end
end L2

namespace L2
open PySem PySem.Spec PyProof.Rows

/-! ### places -/
/-- the place that an index of any sign means -/
def ixN (n : Nat) (i : Int) : Option Nat := if 0 ≤ i then (if i < n then some i.toNat else none) else if -(n : Int) ≤ i then some (i + n).toNat else none
def atI {α : Type} (xs : List α) (i : Int) : Option α := (ixN xs.length i).bind fun j => xs[j]?
theorem ixN_seq {n : Nat} {i : Int} {j : Nat} (h : ixN n i = some j) : seqIndex? i n = some j ∧ j < n ∧ -(n : Int) ≤ i ∧ i < n := by
  unfold ixN at h
  by_cases h0 : 0 ≤ i
  · rw [if_pos h0] at h
    by_cases h1 : i < n
    · rw [if_pos h1] at h
      have e : i.toNat = j := Option.some.inj h
      exact ⟨by rw [seqIndex_of h0 h1, e], by omega, by omega, h1⟩
    · rw [if_neg h1] at h; cases h
  · rw [if_neg h0] at h
    by_cases h1 : -(n : Int) ≤ i
    · rw [if_pos h1] at h
      have e : (i + n).toNat = j := Option.some.inj h
      exact ⟨by rw [seqIndex_neg (by omega) h1, e], by omega, h1, by omega⟩
    · rw [if_neg h1] at h; cases h
theorem atI_get {α : Type} {xs : List α} {i : Int} {v : α} (h : atI xs i = some v) : ∃ j, seqIndex? i xs.length = some j ∧ xs[j]? = some v ∧ j < xs.length ∧ -(xs.length : Int) ≤ i ∧ i < xs.length := by
  unfold atI at h
  cases e : ixN xs.length i with
  | none => rw [e] at h; cases h
  | some j =>
    rw [e] at h
    obtain ⟨h1, h2, h3, h4⟩ := ixN_seq e
    exact ⟨j, h1, h, h2, h3, h4⟩
theorem atI_nat {α : Type} {xs : List α} {j : Nat} {v : α} (h : xs[j]? = some v) : atI xs (j : Int) = some v := by
  have hj : j < xs.length := (List.getElem?_eq_some_iff.mp h).1
  have e : ixN xs.length (j : Int) = some j := by
    unfold ixN
    rw [if_pos (by omega), if_pos (by omega)]; simp
  unfold atI; rw [e]; exact h
theorem atI_last {α : Type} (xs : List α) (v : α) : atI (xs ++ [v]) (-1) = some v := by
  have hl : (xs ++ [v]).length = xs.length + 1 := by simp
  have e : ixN (xs ++ [v]).length (-1) = some xs.length := by
    unfold ixN
    rw [hl, if_neg (by decide), if_pos (by omega)]
    congr 1
    omega
  unfold atI
  rw [e]
  show (xs ++ [v])[xs.length]? = some v
  simp

/-! ### what may be subscripted -/
/-- what stands as an index of a plain subscript -/
def PlainIx (b : Expr) : Prop := ∀ o i, subscripted b false o i = operate [o, i] (getItem o i)
/-- a subscript by values -/
def IxR (X : Cx) (r : R2) : Prop :=
  ∀ (value slice : Expr) (pins : List (Addr × Obj)) (s : Shared) (σ : St) (H : Hp) (x y : V) (v u : Value) (Q : VK), Inv X pins σ H s → RelV x v → RelV y u → r x y H Q →
    subscripted slice false v u = operate [v, u] (getItem v u) → wpAny (model X.prog X.w) X.A (subscriptTail value slice v u) (EP X pins σ Q) X.xe s
/-- a call of a builtin's method by values: the receiver, the arguments -/
def MtR (X : Cx) (id : String) (r : V → List V → Hp → VK → Prop) : Prop :=
  ∀ (pins : List (Addr × Obj)) (s : Shared) (σ : St) (H : Hp) (x : V) (xs : List V) (v : Value) (us : List Value) (Q : VK), Inv X pins σ H s → RelV x v → Vals xs us → r x xs H Q →
    wpAny (model X.prog X.w) X.A (call (.builtin id) (v :: us)) (EP X pins σ Q) X.xe s
section
variable {X : Cx} {a b : Expr} {ta tb : TE} {pos : Pos}
/-- a[b] -/
theorem pe_ix {r : R2} (hr : IxR X r) (ha : PE X a ta) (hb : PE X b tb) (hs : PlainIx b) : PE X (.Subscript a b pos) (tOp r ta tb) := by
  intro pins s σ H Q I h
  exact Subscript_ (binT ha hb I h fun v u s2 x y H2 I2 rx ry q => hr a b pins s2 σ H2 x y v u Q I2 rx ry q (hs _ _))

def rIxL (K : PySem.W.Frag) : R2 := fun x y H Q => ∃ p xs i v, x = .ref p ∧ y = .int i ∧ SqL K H p xs ∧ atI xs i = some v ∧ Q v H
def rIxT (K : PySem.W.Frag) : R2 := fun x y H Q => ∃ p xs i v, x = .ref p ∧ y = .int i ∧ SqT K H p xs ∧ atI xs i = some v ∧ Q v H
theorem ix_list : IxR X (rIxL X.K) := by
  intro value slice pins s σ H x y v u Q I rx ry h hs
  obtain ⟨p, xs, i, z, rfl, rfl, hq, he, q⟩ := h
  cases rx
  obtain ⟨t, rfl⟩ := ry
  obtain ⟨its, r, pl, hz⟩ := I.list hq
  obtain ⟨j, h1, h2, h3, h4, h5⟩ := atI_get he
  obtain ⟨w, ew, rw'⟩ := r.get h2
  have hl := r.length
  have hn := line63
  have fin : EP X pins σ Q w s := ⟨z, H, I, rw', q⟩
  by_cases h0 : 0 ≤ i
  · have hj : i.toNat = j := by
      rw [seqIndex_of h0 h5] at h1
      exact Option.some.inj h1
    exact item_listR pl.isList h0 (by omega) (by rw [hj]; simpa using ew) fin hs
  · have hj : (i + (its.toArray.size : Int)).toNat = j := by
      rw [seqIndex_neg (by omega) h4] at h1
      rw [List.size_toArray, ← hl]
      exact Option.some.inj h1
    exact subscriptTail_builtinR (x := w) pl.isList.typeIs slot_list_getitem.lookup
      (wpAny_getItem_list_neg (Q := fun r s' => r = w ∧ EP X pins σ Q r s') pl.isList (by omega) (by rw [List.size_toArray] <;> omega) (by omega) (by rw [hj]; simpa using ew) ⟨rfl, fin⟩) hs
theorem ix_tup : IxR X (rIxT X.K) := by
  intro value slice pins s σ H x y v u Q I rx ry h hs
  obtain ⟨p, xs, i, z, rfl, rfl, hq, he, q⟩ := h
  cases rx
  obtain ⟨t, rfl⟩ := ry
  obtain ⟨its, r, pl, hz⟩ := I.tuple hq
  obtain ⟨j, h1, h2, h3, h4, h5⟩ := atI_get he
  obtain ⟨w, ew, rw'⟩ := r.get h2
  have hl := r.length
  have hn := line63
  have fin : EP X pins σ Q w s := ⟨z, H, I, rw', q⟩
  exact subscriptTail_builtinR (x := w) pl.typeIs slot_tuple_getitem.lookup
    (getItem_tuple (j := j) (Q := fun r s' => r = w ∧ EP X pins σ Q r s') pl (by omega) (by omega) (by rw [List.size_toArray, ← hl]; exact h1) (by simpa using ew) ⟨rfl, fin⟩) hs
/-! ### xs[i] = v, any sign -/
/-- the list's object behind a store -/
theorem mapSeq_set (its : List Value) (n j : Nat) (u : Value) : Obj.mapSeq (·.setIfInBounds j u) { cls := .type "list", data := .seq its.toArray n } = { cls := .type "list", data := .seq (its.set j u).toArray n } := by
  simp [Obj.mapSeq]
theorem Inv.lst {pins : List (Addr × Obj)} {σ : St} {H : Hp} {s : Shared} {p : Addr} {xs : List V} (I : Inv X pins σ H s) (h : H p = some (.lst xs)) :
    ∃ (its : List Value) (n : Nat), Vals xs its ∧ s.heap.get? p = some { cls := .type "list", data := .seq its.toArray n } ∧ xs.length ≤ sizeLine := by
  obtain ⟨z, its, n, r, e⟩ := I.hok p _ h
  exact ⟨its, n, r, e, z⟩
/-- the list at p is written by an update of its object -/
theorem Inv.lstUpd {pins : List (Addr × Obj)} {σ : St} {H : Hp} {s : Shared} {p : Addr} {xs ys : List V} {its its' : List Value} {n n' : Nat} {f : Obj → Obj} (I : Inv X pins σ H s) (h : H p = some (.lst xs))
    (ho : s.heap.get? p = some { cls := .type "list", data := .seq its.toArray n }) (hf : f { cls := .type "list", data := .seq its.toArray n } = { cls := .type "list", data := .seq its'.toArray n' }) (r : Vals ys its') (hz : ys.length ≤ sizeLine) (t : Nat) :
    Inv X pins σ (upd H p (.lst ys)) { s with heap := s.heap.update p f, toks := t } := by
  have e : (s.heap.update p f).get? p = some { cls := .type "list", data := .seq its'.toArray n' } := by
    rw [Heap.get?_update_self f ho (by rw [hf] <;> rfl), hf]
  refine I.write (x := p) (e := p) (by rw [h]; trivial) (.inl rfl) (fun b u hb q => (Heap.get?_update_other _ _ (Ne.symm hb)).trans q) ⟨_, e⟩ ?_
  exact ⟨hz, its', n', r, e⟩
def rSetL : V → V → V → Hp → (Hp → Prop) → Prop := fun o i v H Q => ∃ p xs k j, o = .ref p ∧ i = .int k ∧ H p = some (.lst xs) ∧ ixN xs.length k = some j ∧ Q (upd H p (.lst (xs.set j v)))
theorem set_list : PSet X rSetL := by
  intro pins s σ H o i v ov iv u Q I ro ri rv h
  obtain ⟨p, xs, k, j, rfl, rfl, hp, hj, q⟩ := h
  cases ro
  obtain ⟨t, rfl⟩ := ri
  obtain ⟨its, n, r, ho, hz⟩ := I.lst hp
  obtain ⟨h1, h2, h3, h4⟩ := ixN_seq hj
  have hl := r.length
  have hn := line63
  have I' : Inv X pins σ (upd H p (.lst (xs.set j v))) { s with heap := s.heap.update p (Obj.mapSeq (·.setIfInBounds j u)) } :=
    I.lstUpd hp ho (mapSeq_set its n j u) (r.set rv j) (by rw [List.length_set]; exact hz) s.toks
  by_cases h0 : 0 ≤ k
  · have hk : k.toNat = j := by
      rw [seqIndex_of h0 h4] at h1
      exact Option.some.inj h1
    exact PySem.W.ki_setAt ho h0 (by omega) (by rw [List.size_toArray, ← hl]; exact h4) (by rw [hk]; exact ⟨_, I', q⟩)
  · have hk : (k + (its.toArray.size : Int)).toNat = j := by
      rw [seqIndex_neg (by omega) h3] at h1
      rw [List.size_toArray, ← hl]
      exact Option.some.inj h1
    exact PySem.W.ki_setBack ho (by omega) (by rw [List.size_toArray, ← hl]; exact h3) (by omega) (by rw [hk]; exact ⟨_, I', q⟩)

/-! ### slices -/
/-! ### in, not in: flat items -/
/-! ### len, list(x), tuple(x) of any list or tuple that is read -/
theorem call_list_of : CallR X (.type "list") (fun xs H Q => ∃ p ys, xs = [.ref p] ∧ (SqL X.K H p ys ∨ SqT X.K H p ys) ∧ ∀ l, H l = none → Q (.ref l) (upd H l (.lst ys))) := by
  intro pins s σ H xs us Q I r h
  obtain ⟨p, ys, rfl, hq, q⟩ := h
  obtain ⟨u, rfl, rx⟩ := vals1 r
  cases rx
  have fin : ∀ (its : List Value), Vals ys its → ys.length ≤ sizeLine → ∀ (h' : Heap) (c' : Nat), (∀ b o', s.heap.get? b = some o' → h'.get? b = some o') →
      h'.get? s.heap.objs.size = some { cls := .type "list", dict := none, data := .seq its.toArray c', slots := #[] } → EP X pins σ Q (.ref s.heap.objs.size) { s with heap := h' } := fun its r' hz h' c' kp e =>
    ⟨.ref s.heap.objs.size, _, I.laid (t' := s.toks) kp (Nat.le_refl _) (show ObjOk X.prog X.w _ h' _ (.lst ys) from ⟨hz, its, c', r', e⟩), rfl, q _ (I.hok.fresh (Nat.le_refl _))⟩
  rcases hq with hq | hq
  · obtain ⟨its, r', pl, hz⟩ := I.list hq
    have hlen := r'.length
    obtain ⟨o, ho, hc, n, hd⟩ := pl.isList
    exact call_list_seq p (.inl rfl) ho hc hd (fun h' c' kp e => fin its r' hz h' c' kp e) (by simp only [List.size_toArray] <;> omega)
  · obtain ⟨its, r', pl, hz⟩ := I.tuple hq
    have hlen := r'.length
    obtain ⟨o, ho, hc, n, hd⟩ := pl
    exact call_list_seq p (.inr rfl) ho hc hd (fun h' c' kp e => fin its r' hz h' c' kp e) (by simp only [List.size_toArray] <;> omega)
/-! ### the call of a builtin's method: o.m(..) -/
/-- the value is of that builtin type -/
def tyV (K : PySem.W.Frag) (T : String) (x : V) (H : Hp) : Prop := match x with
  | .str _ => T = "str"
  | .int _ => T = "int"
  | .ref p => (T = "list" ∧ ∃ xs, SqL K H p xs) ∨ (T = "tuple" ∧ ∃ o, K.lookup p = some o ∧ o.cls = .type "tuple" ∧ o.dict = none) ∨
      (T = "dict" ∧ ((∃ kvs, H p = some (.dK kvs)) ∨ ∃ kvs, H p = some (.dT kvs))) ∨ (T = "set" ∧ ∃ S n, H p = some (.set S n))
  | _ => False
theorem tyV_is {pins : List (Addr × Obj)} {σ : St} {H : Hp} {s : Shared} {T : String} {x : V} {v : Value} (I : Inv X pins σ H s) (r : RelV x v) (ty : tyV X.K T x H) :
    s.TypeIs v T ∧ ∀ a, v = .ref a → ∃ ob, s.heap.get? a = some ob ∧ ob.dict = none := by
  cases x with
  | str z =>
    obtain ⟨t, rfl⟩ := r
    cases (show T = "str" from ty)
    exact ⟨typeIs_str s z t, fun _ e => nomatch e⟩
  | int i =>
    obtain ⟨t, rfl⟩ := r
    cases (show T = "int" from ty)
    exact ⟨typeIs_int s i t, fun _ e => nomatch e⟩
  | ref p =>
    cases r
    rcases ty with ⟨rfl, xs, hq⟩ | ⟨rfl, o, hk, hc, hd⟩ | ⟨rfl, hk⟩ | ⟨rfl, S, n, hk⟩
    · obtain ⟨its, _, pl, _⟩ := I.list hq
      refine ⟨pl.isList.typeIs, fun a e => ?_⟩
      cases e
      obtain ⟨o, n, e, c, hd, _⟩ := pl
      exact ⟨o, e, hd⟩
    · refine ⟨⟨o, I.kIn p o hk, hc⟩, fun a e => ?_⟩
      cases e
      exact ⟨o, I.kIn _ o hk, hd⟩
    · have z : ∃ o, s.heap.get? p = some o ∧ o.ExactDict := by
        rcases hk with ⟨kvs, hk⟩ | ⟨kvs, hk⟩
        · obtain ⟨_, _, _, _, o, _, _, e, ex, _⟩ := I.hok p _ hk
          exact ⟨o, e, ex⟩
        · obtain ⟨_, _, _, _, o, _, _, e, ex, _⟩ := I.hok p _ hk
          exact ⟨o, e, ex⟩
      obtain ⟨o, e, ex⟩ := z
      refine ⟨⟨o, e, ex.1⟩, fun a e2 => ?_⟩
      cases e2
      exact ⟨o, e, ex.2.1⟩
    · obtain ⟨o, _, _, _, e, ex, _⟩ := I.hok p _ hk
      refine ⟨⟨o, e, ex.1⟩, fun a e2 => ?_⟩
      cases e2
      exact ⟨o, e, ex.2.1⟩
  | _ => exact False.elim ty
def tBM (K : PySem.W.Frag) (T : String) (r : V → List V → Hp → VK → Prop) (to : TE) (t : TA) : TE := fun σ H Q => to σ H fun x H1 => tyV K T x H1 ∧ t σ H1 fun xs H2 => r x xs H2 Q
variable {o e : Expr} {es : List Expr} {to : TE} {t : TA} {name : Str} {apos cpos : Pos} {T id : String} {r : V → List V → Hp → VK → Prop}
theorem pe_bm (pa : PlainAttrs T) (slot : Slot T name id) (hty : typeOf (.builtin id) = pure (.type "method_descriptor")) (hm : MtR X id r) (ho : PE X o to) (ha : PA X (e :: es) t)
    (hbase : attributeBase o name X.env (eval o X.env) = eval o X.env := by rfl)
    (hfew : ((backTo cpos (starEach (e :: es) X.env)).all (fun x => !x.1) && (backToKw cpos (keywordEach [] X.env)).all (fun x => x.1.isSome)
      && decide ((e :: es).length + ([] : List Keyword).length + (if ([] : List Keyword).isEmpty then 0 else 1) < 30)) = true := by rfl)
    (hline : (apos.endLine == cpos.line) = true := by rfl) (hs : starEach (e :: es) X.env = (false, eval e X.env) :: starEach es X.env := by rfl) (hplain : (backTo cpos (starEach es X.env)).any (·.1) = false := by rfl) :
    PE X (.Call (.Attribute o name apos) (e :: es) [] cpos) (tBM X.K T r to t) := by
  intro pins s σ H Q I h
  refine wpAny_Call_method_late hbase hfew hline rfl (thn (ho pins s σ H _ I h) fun v s1 ⟨x, H1, I1, r1, ty, q1⟩ => ?_)
  obtain ⟨h1, h2⟩ := tyV_is I1 r1 ty
  refine ⟨T, id, pa, slot, hty, h1, h2, ?_⟩
  have hA := ha cpos pins s1 σ H1 _ I1 q1
  rw [hs] at hA ⊢
  refine Calls.callWith_builtin (by show (false || (backTo cpos (starEach es X.env)).any (·.1)) = false; rw [hplain] <;> rfl) (Calls.evalArgs_plain ?_)
  exact thn hA fun us s2 ⟨vs, H2, I2, r2, q2⟩ => hm pins s2 σ H2 x vs v us Q I2 r1 r2 q2
/- xs.append(e), list.index on a module's tuple .. are MtR facts of 06m -/
end
end L2

namespace L2
open PySem PySem.Spec PyProof.Rows

def MtM (X : Cx) (id : String) (r : V → List V → Hp → VK → Prop) : Prop :=
  ∀ (pins : List (Addr × Obj)) (s : Shared) (σ : St) (H : Hp) (x : V) (xs : List V) (v : Value) (us : List Value) (Q : VK), Inv X pins σ H s → RelV x v → Vals xs us → r x xs H Q →
    wpAny (model X.prog X.w) X.A (call (.builtin id) (v :: us)) (EP X pins σ Q) X.xe s

/-! ### lists of values -/
theorem Vals.one : ∀ {x : V} {us : List Value}, Vals [x] us → ∃ u, us = [u] ∧ RelV x u
  | _, _, .cons r .nil => ⟨_, rfl, r⟩
theorem Vals.rep {xs : List V} {us : List Value} (h : Vals xs us) : ∀ k : Nat, Vals (List.replicate k xs).flatten (List.replicate k us).flatten
  | 0 => .nil
  | k + 1 => by
    rw [List.replicate_succ, List.replicate_succ, List.flatten_cons, List.flatten_cons]
    exact Vals.append h (Vals.rep h k)
theorem foldl_rep (its : List Value) : ∀ (k : Nat) (acc : List Value),
    List.foldl (fun x1 x2 => x1 ++ x2) acc.toArray (List.replicate k its.toArray) = (acc ++ (List.replicate k its).flatten).toArray
  | 0, acc => by simp
  | k + 1, acc => by
    have e : acc.toArray ++ its.toArray = (acc ++ its).toArray := by simp
    have e2 : (acc ++ its) ++ (List.replicate k its).flatten = acc ++ (List.replicate (k + 1) its).flatten := by
      rw [List.replicate_succ, List.flatten_cons, List.append_assoc]
    rw [← e2, ← foldl_rep its k (acc ++ its), ← e, List.replicate_succ, List.foldl_cons]

section
variable {X : Cx} {pins : List (Addr × Obj)} {σ : St} {H : Hp} {s : Shared} {l b : Addr} {xs ys zs : List V}

/-! ### the two steps: a tracked list is rewritten, a new list is laid -/
theorem Inv.lset {its its' : List Value} {n : Nat} {f : Array Value → Array Value} {t' : Nat} (I : Inv X pins σ H s) (hH : H l = some (.lst xs))
    (e : s.heap.get? l = some { cls := .type "list", data := .seq its.toArray n }) (hf : f its.toArray = its'.toArray) (hv : Vals ys its') (hz : ys.length ≤ sizeLine) :
    Inv X pins σ (upd H l (.lst ys)) { s with heap := s.heap.update l (Obj.mapSeq f), toks := t' } := by
  have q := PySem.IsL.update e f
  rw [hf] at q
  refine I.write (x := l) (e := l) (by rw [hH]; exact trivial) (.inl rfl) (fun b' u hb hu => (Heap.get?_update_other s.heap (Obj.mapSeq f) (Ne.symm hb)).trans hu) ⟨_, q⟩ ?_
  exact ⟨hz, its', _, hv, q⟩
theorem Inv.lnew {its : List Value} {t' : Nat} (I : Inv X pins σ H s) (hv : Vals ys its) (hz : ys.length ≤ sizeLine) :
    Inv X pins σ (upd H s.heap.objs.size (.lst ys)) { s with heap := s.heap.push { cls := .type "list", data := .seq its.toArray }, toks := t' } :=
  I.laid (fun _ _ q => Heap.get?_push_of_some _ q) (Nat.le_refl _) ⟨hz, its, 0, hv, Heap.get?_push_size _ rfl⟩
theorem Inv.fresh (I : Inv X pins σ H s) : H s.heap.objs.size = none := I.hok.fresh (Nat.le_refl _)
theorem Inv.lstM (I : Inv X pins σ H s) (hH : H l = some (.lst xs)) : xs.length ≤ sizeLine ∧ ∃ (its : List Value) (n : Nat), Vals xs its ∧ xs.length = its.length ∧ s.heap.get? l = some { cls := .type "list", data := .seq its.toArray n } := by
  obtain ⟨z, its, n, r, e⟩ := I.hok l _ hH
  exact ⟨z, its, n, r, r.length, e⟩

theorem notLongL {n : Nat} (h : n ≤ sizeLine) : Builtin.List.listTooLong n = false := by
  unfold Builtin.List.listTooLong
  exact decide_eq_false (by omega)
end

section
variable {X : Cx}

/-! ### methods -/
def rAppend : V → List V → Hp → VK → Prop := fun x vs H Q => ∃ l xs y, x = .ref l ∧ vs = [y] ∧ H l = some (.lst xs) ∧ xs.length < sizeLine ∧ Q .non (upd H l (.lst (xs ++ [y])))
theorem mt_append : MtM X "list.append" rAppend := by
  intro pins s σ H x vs v us Q I rx rv h
  obtain ⟨l, xs, y, rfl, rfl, hH, hz, q⟩ := h
  cases rx
  obtain ⟨u, rfl, ru⟩ := rv.one
  obtain ⟨z, its, n, r, hl, e⟩ := I.lstM hH
  refine call_meets F.slot_list_append ⟨_, e, rfl⟩ F.entry_list_append (F.args_list_append_2 _ _) (PySem.list_append l its.toArray n u (by rw [List.size_toArray]; omega)) ⟨e, ?_⟩
  refine ⟨.non, _, I.lset (its' := its ++ [u]) hH e (by simp) (r.append (.cons ru .nil)) ?_, rfl, q⟩
  rw [List.length_append, List.length_singleton]
  omega

/-! ### list + list, list += list, list * int -/
def rCat : R2 := fun x y H Q => ∃ l b xs zs, x = .ref l ∧ y = .ref b ∧ H l = some (.lst xs) ∧ H b = some (.lst zs) ∧ xs.length + zs.length ≤ sizeLine ∧ ∀ p, H p = none → Q (.ref p) (upd H p (.lst (xs ++ zs)))
theorem op_cat : OpR X (binaryOp .Add) rCat := by
  intro pins s σ H x y v u Q I rx ry h
  obtain ⟨l, b, xs, zs, rfl, rfl, hH, hB, hz, q⟩ := h
  cases rx
  cases ry
  obtain ⟨z, its, n, r, hl, e⟩ := I.lstM hH
  obtain ⟨z2, its2, n2, r2, hl2, e2⟩ := I.lstM hB
  refine PySem.P.add_list e e2 ?_ (by rw [List.size_toArray, List.size_toArray]; omega)
  have ea : its.toArray ++ its2.toArray = (its ++ its2).toArray := by simp
  rw [ea]
  exact ⟨.ref _, _, I.lnew (t' := s.toks) (r.append r2) (by rw [List.length_append]; omega), rfl, q _ I.fresh⟩
/-- a list times an int (a negative one is nothing) -/
def rRep : R2 := fun x y H Q => ∃ l k xs, x = .ref l ∧ y = .int k ∧ H l = some (.lst xs) ∧ -(2 ^ 63) ≤ k ∧ k < 2 ^ 63 ∧ xs.length * k.toNat ≤ sizeLine ∧
  ∀ p, H p = none → Q (.ref p) (upd H p (.lst (List.replicate k.toNat xs).flatten))
theorem len_rep {α : Type} (xs : List α) (k : Nat) : (List.replicate k xs).flatten.length = k * xs.length := by
  induction k with
  | zero => simp
  | succ k ih => rw [List.replicate_succ, List.flatten_cons, List.length_append, ih, Nat.succ_mul, Nat.add_comm]
theorem op_rep : OpR X (binaryOp .Mult) rRep := by
  intro pins s σ H x y v u Q I rx ry h
  obtain ⟨l, k, xs, rfl, rfl, hH, h1, h2, hz, q⟩ := h
  cases rx
  obtain ⟨t, rfl⟩ := ry
  obtain ⟨z, its, n, r, hl, e⟩ := I.lstM hH
  have hlen : its.toArray.size * k.toNat ≤ sizeLine := by rw [List.size_toArray, ← hl]; exact hz
  have hcap : ¬ its.toArray.size * k.toNat > (2 ^ 63 - 1) / 8 := by
    have : (sizeLine : Nat) ≤ (2 ^ 63 - 1) / 8 := by decide
    omega
  have hfit : ¬ (!Builtin.List.listFitsIndex k) = true := by
    rw [fitsIndex_both h1 h2]
    exact Bool.false_ne_true
  have hlong : ¬ Builtin.List.listTooLong (its.toArray.size * k.toNat) = true := by
    rw [notLongL hlen]
    exact Bool.false_ne_true
  have hnew : List.foldl (fun x1 x2 => x1 ++ x2) #[] (List.replicate (if its.toArray.isEmpty = true then 0 else k.toNat) its.toArray) = (List.replicate k.toNat its).flatten.toArray := by
    have f0 : ∀ m : Nat, List.foldl (fun x1 x2 => x1 ++ x2) #[] (List.replicate m its.toArray) = (List.replicate m its).flatten.toArray := fun m => by
      have := foldl_rep its m []
      rw [List.nil_append] at this
      exact this
    rw [f0]
    cases its with
    | nil => simp
    | cons a r' => rw [if_neg (by simp)]
  refine wpAny_binaryOp_repeat_ref (T := "list") (U := "int") (by decide) ⟨_, e, rfl⟩ (fun s' => typeIs_int s' k t) noFill_list_mul F.fills_int_mul F.slot_int_rmul repeat_list F.slot_int_index.lookup
    (call_meets F.slot_int_rmul (typeIs_int s k t) F.entry_int_rmul (F.args_int_rmul_2 _ _) (int___rmul___int_list k t l its.toArray n)
      ⟨e, rfl, ⟨_, e, rfl⟩, call_meets F.slot_list_mul ⟨_, e, rfl⟩ F.entry_list_mul (F.args_list_mul_2 _ _) (AutoListH.list___mul___list_int_3 l its.toArray n k t hfit hcap hlong) ⟨e, ?_⟩⟩)
  rw [hnew]
  exact ⟨.ref _, _, I.lnew (t' := s.toks) (r.rep k.toNat) (by rw [len_rep, Nat.mul_comm]; exact hz), rfl, q _ I.fresh⟩

/-! ### del xs[i] -/
end

/-! ### xs[a:b] = ys -/
section
end

section
end
end L2

namespace L2
open PySem PySem.Spec PyProof.Rows

/-! ### lists of pairs as tables -/
section
variable {κ : Type} [DecidableEq κ]
def valV (kvs : List (κ × V)) (k : κ) : Option V := (kvs.find? fun kv => decide (kv.1 = k)).map (·.2)
/-- in its place, or at the end -/
def putK (kvs : List (κ × V)) (k : κ) (v : V) : List (κ × V) :=
  if (kvs.any fun kv => decide (kv.1 = k)) = true then kvs.map (fun kv => if kv.1 = k then (kv.1, v) else kv) else kvs ++ [(k, v)]
theorem valV_pos {p : κ × V} {r : List (κ × V)} {k : κ} (e : p.1 = k) : valV (p :: r) k = some p.2 := by simp [valV, List.find?_cons, e]
theorem valV_neg {p : κ × V} {r : List (κ × V)} {k : κ} (e : ¬ p.1 = k) : valV (p :: r) k = valV r k := by simp [valV, List.find?_cons, e]
theorem valV_any (k : κ) : ∀ kvs : List (κ × V), (kvs.any fun kv => decide (kv.1 = k)) = (valV kvs k).isSome
  | [] => rfl
  | p :: r => by
    rw [List.any_cons]
    by_cases e : p.1 = k
    · simp only [valV_pos e, decide_eq_true e, Bool.true_or, Option.isSome_some]
    · rw [valV_neg e, decide_eq_false e, Bool.false_or]; exact valV_any k r
theorem valV_map (k j : κ) (y : V) : ∀ kvs : List (κ × V), valV (kvs.map fun kv => if kv.1 = k then (kv.1, y) else kv) j = (valV kvs j).map fun x => if j = k then y else x
  | [] => rfl
  | p :: r => by
    have ih := valV_map k j y r
    rw [List.map_cons]
    by_cases h : p.1 = k
    · rw [if_pos h]
      by_cases e : p.1 = j
      · rw [valV_pos (p := (p.1, y)) e, valV_pos e, Option.map_some, if_pos (e.symm.trans h)]
      · rw [valV_neg (p := (p.1, y)) e, valV_neg e, ih]
    · rw [if_neg h]
      by_cases e : p.1 = j
      · rw [valV_pos (p := p) e, valV_pos e, Option.map_some, if_neg (fun z => h (e.trans z))]
      · rw [valV_neg (p := p) e, valV_neg e, ih]
theorem valV_snoc (k j : κ) (y : V) : ∀ kvs : List (κ × V), valV kvs k = none → valV (kvs ++ [(k, y)]) j = if j = k then some y else valV kvs j
  | [], _ => by
    by_cases e : k = j
    · rw [if_pos e.symm]; exact valV_pos (p := (k, y)) e
    · rw [if_neg (fun z => e z.symm)]; exact valV_neg (p := (k, y)) e
  | p :: r, hn => by
    rw [List.cons_append]
    have hk : ¬ p.1 = k := fun z => by rw [valV_pos z] at hn; cases hn
    rw [valV_neg hk] at hn
    have ih := valV_snoc k j y r hn
    by_cases e : p.1 = j
    · rw [valV_pos e, valV_pos e, if_neg (fun z => hk (e.trans z))]
    · rw [valV_neg e, valV_neg e, ih]
theorem valV_put (kvs : List (κ × V)) (k j : κ) (y : V) : valV (putK kvs k y) j = if j = k then some y else valV kvs j := by
  unfold putK
  by_cases a : (kvs.any fun kv => decide (kv.1 = k)) = true
  · rw [if_pos a, valV_map]
    rw [valV_any] at a
    by_cases e : j = k
    · obtain ⟨x, hx⟩ := Option.isSome_iff_exists.mp a
      rw [if_pos e, e, hx, Option.map_some, if_pos rfl]
    · rw [if_neg e]
      cases valV kvs j with
      | none => rfl
      | some x => rw [Option.map_some, if_neg e]
  · rw [if_neg a]
    refine valV_snoc k j y kvs ?_
    rw [valV_any] at a
    cases q : valV kvs k with
    | none => rfl
    | some x => rw [q] at a; exact (a rfl).elim
theorem length_putK (kvs : List (κ × V)) (k : κ) (v : V) : (putK kvs k v).length ≤ kvs.length + 1 := by
  unfold putK
  split
  · rw [List.length_map]; omega
  · rw [List.length_append, List.length_cons, List.length_nil]; omega
theorem RelO.isSome_eq {o : Option V} {u : Option Value} (r : RelO o u) : o.isSome = u.isSome := by
  cases o with
  | none => cases u with
    | none => rfl
    | some _ => exact (show False from r).elim
  | some _ => cases u with
    | none => exact (show False from r).elim
    | some _ => rfl
theorem RelO.getD {o : Option V} {u : Option Value} {d : V} {d' : Value} (r : RelO o u) (rd : RelV d d') : RelV (o.getD d) (u.getD d') := by
  cases o with
  | none => cases u with
    | none => exact rd
    | some _ => exact (show False from r).elim
  | some _ => cases u with
    | none => exact (show False from r).elim
    | some _ => exact r

/-- raw tables of the same keys -/
theorem KV.val {kvs : List (κ × V)} {vs : List (κ × Value)} (r : KV kvs vs) (k : κ) : RelO (valV kvs k) (valueAt vs k) := by
  unfold KV at r
  induction r with
  | nil => exact True.intro
  | @cons p q ps qs h t ih =>
    obtain ⟨h1, h2⟩ := h
    by_cases e : p.1 = k
    · have e' : q.1 = k := h1.symm.trans e
      have b : valueAt (q :: qs) k = some q.2 := by simp [valueAt, List.find?_cons, e']
      rw [valV_pos e, b]; exact h2
    · have e' : ¬ q.1 = k := fun z => e (h1.trans z)
      have b : valueAt (q :: qs) k = valueAt qs k := by simp [valueAt, List.find?_cons, e']
      rw [valV_neg e, b]; exact ih
theorem KV.any {kvs : List (κ × V)} {vs : List (κ × Value)} (r : KV kvs vs) (k : κ) : (kvs.any fun kv => decide (kv.1 = k)) = vs.any fun kv => decide (kv.1 = k) := by
  unfold KV at r
  induction r with
  | nil => rfl
  | cons h t ih => rw [List.any_cons, List.any_cons, ih, h.1]
theorem KV.repl {kvs : List (κ × V)} {vs : List (κ × Value)} (r : KV kvs vs) (k : κ) {y : V} {u : Value} (ry : RelV y u) :
    KV (kvs.map fun kv => if kv.1 = k then (kv.1, y) else kv) (vs.map fun kv => if kv.1 = k then (kv.1, u) else kv) := by
  unfold KV at r ⊢
  induction r with
  | nil => exact .nil
  | @cons p q ps qs h t ih =>
    rw [List.map_cons, List.map_cons]
    refine .cons ?_ ih
    obtain ⟨h1, h2⟩ := h
    by_cases e : p.1 = k
    · rw [if_pos e, if_pos (h1.symm.trans e)]; exact ⟨h1, ry⟩
    · rw [if_neg e, if_neg (fun z => e (h1.trans z))]; exact ⟨h1, h2⟩
theorem KV.put {kvs : List (κ × V)} {vs : List (κ × Value)} (r : KV kvs vs) (k : κ) {y : V} {u : Value} (ry : RelV y u) : KV (putK kvs k y) (stored vs k u) := by
  unfold putK stored
  rw [r.any k]
  by_cases e : (vs.any fun kv => decide (kv.1 = k)) = true
  · rw [if_pos e, if_pos e]; exact r.repl k ry
  · rw [if_neg e, if_neg e]; exact Paired.snoc r ⟨rfl, ry⟩
theorem KV.length {kvs : List (κ × V)} {vs : List (κ × Value)} (r : KV kvs vs) : kvs.length = vs.length := Paired.length r
end


/-! ### a tracked dict, its keys ints and texts or tuples of these -/
theorem kV_is {P : Program} {w : World} {k : Key} {u : Value} (r : RelV (kV k) u) : (mixKind P w).is k u = true := by
  cases k with
  | inl i => obtain ⟨t, e⟩ := (show ∃ t, u = Value.int i t from r); subst e; exact mixKind_int P w i t
  | inr x => obtain ⟨t, e⟩ := (show ∃ t, u = Value.str x t from r); subst e; exact mixKind_str P w x t
theorem items_are {P : Program} {w : World} : ∀ {ks : List Key} {us : List Value}, Vals (ks.map kV) us → ItemsAre (mixKind P w) ks us
  | [], _, r => by rw [List.map_nil] at r; cases r; exact .nil
  | k :: ks, _, r => by
    rw [List.map_cons] at r
    cases r with
    | cons h t => exact .cons (kV_is h) (items_are t)

/-- raw entries of a dict with tuple keys -/
abbrev KT (H : Hp) : List (List Key × V) → List (List Key × Addr × Value) → Prop := Paired fun p q => p.1 = q.1 ∧ H q.2.1 = some (.tup (p.1.map kV)) ∧ RelV p.2 q.2.2
theorem KT.val {H : Hp} {kvs : List (List Key × V)} {xs : List (List Key × Addr × Value)} (r : KT H kvs xs) (k : List Key) : RelO (valV kvs k) ((atKey xs k).map (·.2)) := by
  induction r with
  | nil => exact True.intro
  | @cons p q ps qs h t ih =>
    obtain ⟨h1, _, h2⟩ := h
    by_cases e : p.1 = k
    · have e' : q.1 = k := h1.symm.trans e
      have b : atKey (q :: qs) k = some q.2 := by simp [atKey, List.find?_cons, e']
      rw [valV_pos e, b]; exact h2
    · have e' : ¬ q.1 = k := fun z => e (h1.trans z)
      have b : atKey (q :: qs) k = atKey qs k := by simp [atKey, List.find?_cons, e']
      rw [valV_neg e, b]; exact ih
theorem KT.repl {H : Hp} {kvs : List (List Key × V)} {xs : List (List Key × Addr × Value)} (r : KT H kvs xs) (k : List Key) {y : V} {u : Value} (ry : RelV y u) :
    KT H (kvs.map fun kv => if kv.1 = k then (kv.1, y) else kv) (xs.map (putAt k u)) := by
  induction r with
  | nil => exact .nil
  | @cons p q ps qs h t ih =>
    rw [List.map_cons, List.map_cons]
    refine .cons ?_ ih
    obtain ⟨h1, h2, h3⟩ := h
    unfold putAt
    by_cases e : p.1 = k
    · rw [if_pos e, if_pos (h1.symm.trans e)]; exact ⟨h1, h2, ry⟩
    · rw [if_neg e, if_neg (fun z => e (h1.trans z))]; exact ⟨h1, h2, h3⟩
theorem KT.put {H : Hp} {kvs : List (List Key × V)} {xs : List (List Key × Addr × Value)} (r : KT H kvs xs) (k : List Key) {b : Addr} {y : V} {u : Value} (hb : H b = some (.tup (k.map kV))) (ry : RelV y u) :
    KT H (putK kvs k y) (storedH xs k b u) := by
  have e : (kvs.any fun kv => decide (kv.1 = k)) = (atKey xs k).isSome := by
    rw [valV_any, (r.val k).isSome_eq, Option.isSome_map]
  unfold putK storedH
  rw [e]
  by_cases q : (atKey xs k).isSome = true
  · rw [if_pos q, if_pos q]; exact r.repl k ry
  · rw [if_neg q, if_neg q]; exact Paired.snoc r ⟨rfl, hb, ry⟩
theorem KT.keeps {H H' : Hp} {kvs : List (List Key × V)} {xs : List (List Key × Addr × Value)} (r : KT H kvs xs) (ht : ∀ b ys, H b = some (.tup ys) → H' b = some (.tup ys)) : KT H' kvs xs :=
  Paired.mapP r fun _ _ z => ⟨z.1, ht _ _ z.2.1, z.2.2⟩

section
variable {P : Program} {w : World} {H : Hp} {h : Heap} {a : Addr}
theorem rd_of {u : HO} (ok : HOk P w H h) (e : Rd H a u) : ObjOk P w H h a u := e.ok ok
theorem dk_rd {kvs : List (Key × V)} (ok : HOk P w H h) (e : Rd H a (.dK kvs)) : kvs.length ≤ sizeLine ∧ (a == sysModules) = false ∧ ∃ vs, KV kvs vs ∧ h.DictOf (mixKind P w) a vs :=
  show ObjOk P w H h a (.dK kvs) from rd_of ok e
theorem dk_of {kvs : List (Key × V)} (ok : HOk P w H h) (e : H a = some (.dK kvs)) : kvs.length ≤ sizeLine ∧ (a == sysModules) = false ∧ ∃ vs, KV kvs vs ∧ h.DictOf (mixKind P w) a vs := dk_rd ok (.inl e)
/-- a tracked tuple of ints and texts is a key -/
theorem key_of {ks : List Key} (ok : HOk P w H h) (e : H a = some (.tup (ks.map kV))) : (tupleKind (mixKind P w)).is h ks a := by
  obtain ⟨_, its, r, o, h1, h2, n, h3⟩ := (show ObjOk P w H h a (.tup (ks.map kV)) from ok a _ e)
  exact ⟨o, its.toArray, n, h1, h2, h3, by simpa using items_are r⟩
theorem dt_rd {kvs : List (List Key × V)} (ok : HOk P w H h) (e : Rd H a (.dT kvs)) : kvs.length ≤ sizeLine ∧ (a == sysModules) = false ∧
    ∃ xs, KT H kvs xs ∧ h.DictOfH (tupleKind (mixKind P w)) a xs := by
  obtain ⟨z, y, xs, r, o, es, ep, h1, h2, h3, h4, h5⟩ := (show ObjOk P w H h a (.dT kvs) from rd_of ok e)
  refine ⟨z, y, xs, r, o, es, ep, h1, h2, h3, h4, fun x hx => ?_, h5⟩
  have all : ∀ {l : List (List Key × V)} {m : List (List Key × Addr × Value)}, KT H l m → ∀ x ∈ m, (tupleKind (mixKind P w)).is h x.1 x.2.1 := by
    intro l m q
    induction q with
    | nil => intro x hx; exact nomatch hx
    | @cons p q ps qs hq t ih =>
      intro x hx
      rcases List.mem_cons.mp hx with e | hx
      · subst e
        exact key_of ok (by rw [← hq.1]; exact hq.2.1)
      · exact ih x hx
  exact all r x hx
theorem dt_of {kvs : List (List Key × V)} (ok : HOk P w H h) (e : H a = some (.dT kvs)) : kvs.length ≤ sizeLine ∧ (a == sysModules) = false ∧
    ∃ xs, KT H kvs xs ∧ h.DictOfH (tupleKind (mixKind P w)) a xs := dt_rd ok (.inl e)
end

/-- what the dict at a holds at the key y -/
def DGet (H : Hp) (a : Addr) (y : V) (r : Option V) : Prop :=
  (∃ kvs k, Rd H a (.dK kvs) ∧ y = kV k ∧ r = valV kvs k) ∨ ∃ kvs k b, Rd H a (.dT kvs) ∧ y = .ref b ∧ H b = some (.tup (k.map kV)) ∧ r = valV kvs k
/-- the heap behind a[y] = v -/
def DPut (H : Hp) (a : Addr) (y v : V) (H' : Hp) : Prop :=
  (∃ kvs k, H a = some (.dK kvs) ∧ y = kV k ∧ kvs.length < sizeLine ∧ H' = upd H a (.dK (putK kvs k v))) ∨
  ∃ kvs k b, H a = some (.dT kvs) ∧ y = .ref b ∧ H b = some (.tup (k.map kV)) ∧ kvs.length < sizeLine ∧ H' = upd H a (.dT (putK kvs k v))
theorem DGet.k {H : Hp} {a : Addr} {kvs : List (Key × V)} {k : Key} (e : H a = some (.dK kvs)) : DGet H a (kV k) (valV kvs k) := .inl ⟨kvs, k, .inl e, rfl, rfl⟩
theorem DGet.t {H : Hp} {a b : Addr} {kvs : List (List Key × V)} {k : List Key} (e : H a = some (.dT kvs)) (eb : H b = some (.tup (k.map kV))) : DGet H a (.ref b) (valV kvs k) := .inr ⟨kvs, k, b, .inl e, rfl, eb, rfl⟩
theorem DPut.k {H : Hp} {a : Addr} {kvs : List (Key × V)} {k : Key} {v : V} (e : H a = some (.dK kvs)) (hl : kvs.length < sizeLine) : DPut H a (kV k) v (upd H a (.dK (putK kvs k v))) := .inl ⟨kvs, k, e, rfl, hl, rfl⟩
theorem DPut.t {H : Hp} {a b : Addr} {kvs : List (List Key × V)} {k : List Key} {v : V} (e : H a = some (.dT kvs)) (eb : H b = some (.tup (k.map kV))) (hl : kvs.length < sizeLine) :
    DPut H a (.ref b) v (upd H a (.dT (putK kvs k v))) := .inr ⟨kvs, k, b, e, rfl, eb, hl, rfl⟩


section
variable {X : Cx} {pins : List (Addr × Obj)} {σ : St} {H : Hp} {s : Shared} {a : Addr} {y v : V} {u r : Value} {o : Option V} {A : Around} {E : Value → Shared → Prop}

theorem Inv.big (I : Inv X pins σ H s) : sysModules < s.heap.objs.size := by
  have h : mainGlobals < s.heap.objs.size := (I.mod.glob.keeps I.bk).lt
  exact Nat.lt_trans (by decide) h

/-- d[y], there -/
theorem d_getItem {Q : Value → Shared → Prop} (hu : A.units + 1 < cLine) (I : Inv X pins σ H s) (g : DGet H a y (some v)) (ry : RelV y u) (h : ∀ w' s', Inv X pins σ H s' → RelV v w' → Q w' s') :
    wpAny (model X.prog X.w) A (getItem (.ref a) u) Q E s := by
  rcases g with ⟨kvs, k, e, ey, l⟩ | ⟨kvs, k, b, e, ey, eb, l⟩
  · subst ey
    obtain ⟨z, hd, vs, rel, dd⟩ := dk_rd I.hok e
    obtain ⟨w', hw, rw'⟩ := RelO.some_of (v := v) (o := valueAt vs k) (by rw [l]; exact rel.val k)
    exact wpAny_getItem_of (kV_is ry) dd.mapOf hw (h w' _ (I.tok _) rw')
  · subst ey
    cases (show u = Value.ref b from ry)
    obtain ⟨z, hd, xs, rel, dd⟩ := dt_rd I.hok e
    obtain ⟨w', hw, rw'⟩ := RelO.some_of (v := v) (o := (atKey xs k).map (·.2)) (by rw [l]; exact rel.val k)
    obtain ⟨p, hp, hp2⟩ := Option.map_eq_some_iff.mp hw
    refine wpAny_getItem_heap (tupleKind_room_in1 hu) (key_of I.hok eb) dd hp ?_
    rw [hp2]
    exact h w' _ (I.tok _) rw'
theorem d_notIn {Q : Value → Shared → Prop} (hu : A.units + 1 < cLine) (I : Inv X pins σ H s) (g : DGet H a y o) (ry : RelV y u) (h : ∀ s', Inv X pins σ H s' → Q (.bool (!o.isSome)) s') :
    wpAny (model X.prog X.w) A (compareOp .NotIn u (.ref a)) Q E s := by
  rcases g with ⟨kvs, k, e, ey, l⟩ | ⟨kvs, k, b, e, ey, eb, l⟩
  · subst ey
    obtain ⟨z, hd, vs, rel, dd⟩ := dk_rd I.hok e
    refine wpAny_notIn_of (kV_is ry) hd dd.mapOf ?_
    rw [← (rel.val k).isSome_eq, ← l]
    exact h _ (I.tok _)
  · subst ey
    cases (show u = Value.ref b from ry)
    obtain ⟨z, hd, xs, rel, dd⟩ := dt_rd I.hok e
    refine wpAny_notIn_heap (tupleKind_room_in1 hu) (key_of I.hok eb) hd dd ?_
    have q := (rel.val k).isSome_eq
    rw [Option.isSome_map] at q
    rw [← q, ← l]
    exact h _ (I.tok _)
/-- a dict's object is replaced -/
theorem d_write {h' : Heap} {t' : Nat} {ob : HO} (I : Inv X pins σ H s) (mu : Mut (H a)) (hs : Heap.SameBut a s.heap h') (he : ∃ q, h'.get? a = some q) (new : ObjOk X.prog X.w (upd H a ob) h' a ob) :
    Inv X pins σ (upd H a ob) { s with heap := h', toks := t' } :=
  I.write (x := a) (e := a) mu (.inl rfl) (fun b q hb z => (hs.2 b hb).trans z) he new
theorem dk_new {P : Program} {w : World} {H' : Hp} {h' : Heap} {kvs : List (Key × V)} {vs : List (Key × Value)} (z : kvs.length ≤ sizeLine) (hd : (a == sysModules) = false) (rel : KV kvs vs) (dd : h'.DictOf (mixKind P w) a vs) :
    ObjOk P w H' h' a (.dK kvs) := ⟨z, hd, vs, rel, dd⟩
/-- d[y] = v -/
theorem d_setItem {H' : Hp} {Q : Unit → Shared → Prop} (hu : A.units + 1 < cLine) (I : Inv X pins σ H s) (g : DPut H a y v H') (ry : RelV y u) (rv : RelV v r) (h : ∀ s', Inv X pins σ H' s' → Q () s') :
    wpAny (model X.prog X.w) A (setItem (.ref a) u r) Q E s := by
  rcases g with ⟨kvs, k, e, ey, l, eH⟩ | ⟨kvs, k, b, e, ey, eb, l, eH⟩
  · subst ey eH
    obtain ⟨z, hd, vs, rel, dd⟩ := dk_of I.hok e
    have hz : vs.length ≤ sizeLine := by rw [← rel.length]; exact z
    have hl : (putK kvs k v).length ≤ sizeLine := by have := length_putK kvs k v; omega
    refine wpAny_setItem_pairs (hsz := hz) (kV_is ry) dd fun h' dd' hs => h _ ?_
    have he : ∃ q, h'.get? a = some q := let ⟨q, _, _, hq, _⟩ := dd'; ⟨q, hq⟩
    exact d_write I (by rw [e]; exact True.intro) hs he (dk_new hl hd (rel.put k rv) dd')
  · subst ey eH
    cases (show u = Value.ref b from ry)
    obtain ⟨z, hd, xs, rel, dd⟩ := dt_of I.hok e
    have hz : xs.length ≤ sizeLine := by rw [← Paired.length rel]; exact z
    have hl : (putK kvs k v).length ≤ sizeLine := by have := length_putK kvs k v; omega
    refine wpAny_setItem_heap (hsz := hz) (tupleKind_room_in1 hu) (key_of I.hok eb) dd fun h' dd' hs => h _ ?_
    obtain ⟨q, es, ep, hq, h2, h3, h4, _, h5⟩ := dd'
    refine d_write I (by rw [e]; exact True.intro) hs ⟨q, hq⟩ ⟨hl, hd, _, (rel.put k eb rv).keeps fun c ys ec => ?_, q, es, ep, hq, h2, h3, h4, h5⟩
    rw [upd_ne (ne_of ec e (fun z => nomatch z))]
    exact ec
end

section
end


/-! ### readings and rules -/
/-- the element of a subscription, not a slice -/
def NoSl (i : Expr) : Prop := ∀ ov iv, subscripted i false ov iv = operate [ov, iv] (getItem ov iv)
theorem subD_of {prog : Program} {w : World} {A : Around} {E : Value → Shared → Prop} {s : Shared} {env : Env} {value slice : Expr} {pos : Pos} {T id : String} {Q : Value → Shared → Prop}
    (hl : typeLookup (.type T) "__getitem__" = pure (some (.builtin id))) (hs : NoSl slice)
    (h : wpAny (model prog w) A (eval value env) (fun o s₁ => wpAny (model prog w) A (eval slice env) (fun i s₂ => s₂.TypeIs o T ∧ wpAny (model prog w) A (getItem o i) Q E s₂) E s₁) E s) :
    wpAny (model prog w) A (eval (.Subscript value slice pos) env) Q E s := by
  refine Subscript_ (wpAny_mono h (fun o s₁ h₁ => wpAny_mono h₁ (fun i s₂ h₂ => ?_) fun _ _ x => x) fun _ _ x => x)
  obtain ⟨hT, h₂⟩ := h₂
  unfold subscriptTail
  refine wpAny_bind ?_
  rw [getitemInPython_of_ne hT.not_modules]
  refine wpAny_bind (wpAny_specialOf hT hl ?_)
  have fin : wpAny (model prog w) A (subscripted slice false o i) (fun r s₃ => wpAny (model prog w) A (letTemporaryGo value o r >>= fun _ => pure r) Q E s₃) E s₂ := by
    rw [hs o i]
    exact wpAny_operating (wpAny_mono h₂ (fun r s₃ h₃ => wpAny_bind (wpAny_letTemporaryGo (wpAny_pure h₃))) fun _ _ x => x)
  first
    | exact wpAny_pure (wpAny_bind fin)
    | exact wpAny_bind (wpAny_pure (wpAny_bind fin))
    | exact wpAny_bind fin

theorem dict_typeIs {X : Cx} {pins : List (Addr × Obj)} {σ : St} {H : Hp} {s : Shared} {a : Addr} {y : V} {o : Option V} (I : Inv X pins σ H s) (g : DGet H a y o) : s.TypeIs (.ref a) "dict" := by
  rcases g with ⟨kvs, k, e, _, _⟩ | ⟨kvs, k, b, e, _, _, _⟩
  · obtain ⟨_, _, vs, _, dd⟩ := dk_rd I.hok e
    exact dd.typeIs
  · obtain ⟨_, _, xs, _, dd⟩ := dt_rd I.hok e
    exact dd.typeIs
/-- d[y] -/
def tDGet (td ty : TE) : TE := fun σ H Q => td σ H fun x H1 => ty σ H1 fun y H2 => ∃ a v, x = .ref a ∧ DGet H2 a y (some v) ∧ Q v H2
def tDNotIn (ty td : TE) : TE := fun σ H Q => ty σ H fun y H1 => td σ H1 fun x H2 => ∃ a o, x = .ref a ∧ DGet H2 a y o ∧ Q (.bl (!o.isSome)) H2
/-- d[y] = v -/
def sDPut (td ty tv : TE) : TS := fun D σ H => tv σ H fun v H1 => td σ H1 fun x H2 => ty σ H2 fun y H3 => ∃ a H4, x = .ref a ∧ DPut H3 a y v H4 ∧ D.nx σ H4
section
variable {X : Cx} {o i e value : Expr} {pos pos' tpos : Pos} {td ty tv : TE}
theorem pe_dget (hu : X.A.units + 1 < cLine) (ho : PE X o td) (hi : PE X i ty) (hs : NoSl i) : PE X (.Subscript o i pos) (tDGet td ty) := by
  intro pins s σ H Q I h
  refine subD_of PySem.F.slot_dict_getitem.lookup hs (thn (ho pins s σ H _ I h) fun u s1 ⟨x, H1, I1, rx, q1⟩ => thn (hi pins s1 σ H1 _ I1 q1) fun iv s2 ⟨y, H2, I2, ry, a, v, ex, g, q2⟩ => ?_)
  subst ex
  obtain rfl : u = Value.ref a := rx
  exact ⟨dict_typeIs I2 g, d_getItem hu I2 g ry fun w' s3 I3 rw' => ⟨v, H2, I3, rw', q2⟩⟩
theorem pc_dnotin (hu : X.A.units + 1 < cLine) (hi : PE X i ty) (ho : PE X o td) : PC X .NotIn i o (tDNotIn ty td) := by
  intro pins s σ H Q I h
  refine thn (hi pins s σ H _ I h) fun iv s1 ⟨y, H1, I1, ry, q1⟩ => thn (ho pins s1 σ H1 _ I1 q1) fun u s2 ⟨x, H2, I2, rx, a, ov, ex, g, q2⟩ => ?_
  subst ex
  obtain rfl : u = Value.ref a := rx
  exact d_notIn hu I2 g ry fun s3 I3 => ⟨.bl (!ov.isSome), H2, I3, rfl, q2⟩
theorem ps_dput (hu : X.A.units + 1 < cLine) (ho : PE X o td) (hi : PE X i ty) (hv : PE X value tv) (hs : swapsWith value (some (.Subscript o i pos')) pos.line X.env = pure false) :
    PS X (.Assign [.Subscript o i pos'] value pos) (sDPut td ty tv) := by
  intro pins s σ H D I h
  refine wpAny_Assign_Subscript (thn (hv pins s σ H _ I h) fun r s1 ⟨v, H1, I1, rv, q1⟩ => thn (ho pins s1 σ H1 _ I1 q1) fun u s2 ⟨x, H2, I2, rx, q2⟩ => thn (hi pins s2 σ H2 _ I2 q2) fun iv s3 ⟨y, H3, I3, ry, a, H4, ex, g, q3⟩ => ?_) hs
  subst ex
  obtain rfl : u = Value.ref a := rx
  exact d_setItem hu I3 g ry rv fun s4 I4 => ⟨σ, H4, I4, q3⟩
end


/-! ### displays -/
theorem dk_empty {P : Program} {w : World} {H : Hp} (h : Heap) (hb : sysModules < h.objs.size) : ObjOk P w H (h.push { cls := .type "dict", data := .dict #[] }) h.objs.size (.dK []) :=
  ⟨Nat.zero_le _, beq_eq_false_iff_ne.mpr (Ne.symm (Nat.ne_of_lt hb)), [], .nil, Heap.DictOf.new h⟩
theorem dt_empty {P : Program} {w : World} {H : Hp} (h : Heap) (hb : sysModules < h.objs.size) : ObjOk P w H (h.push { cls := .type "dict", data := .dict #[] }) h.objs.size (.dT []) :=
  ⟨Nat.zero_le _, beq_eq_false_iff_ne.mpr (Ne.symm (Nat.ne_of_lt hb)), [], .nil, _, #[], 0, Heap.get?_push_size _ rfl, ⟨rfl, rfl, rfl⟩, rfl, rfl, List.nodup_nil⟩
/-- {}, to be a dict of the kind that is wanted -/
def tDNewK : TE := fun _ H Q => ∀ p, H p = none → Q (.ref p) (upd H p (.dK []))
def tDNewT : TE := fun _ H Q => ∀ p, H p = none → Q (.ref p) (upd H p (.dT []))
section
variable {X : Cx} {pos : Pos}
theorem pe_dnewK : PE X (.Dict [] [] pos) tDNewK := fun pins s σ H Q I h =>
  wpAny_Dict_empty ⟨.ref s.heap.objs.size, _, I.laid (a := s.heap.objs.size) (o := .dK []) (t' := s.toks) (fun _ _ q => Heap.get?_push_of_some _ q) (Nat.le_refl _) (dk_empty s.heap I.big), rfl, h _ (I.hok.fresh (Nat.le_refl _))⟩
theorem pe_dnewT : PE X (.Dict [] [] pos) tDNewT := fun pins s σ H Q I h =>
  wpAny_Dict_empty ⟨.ref s.heap.objs.size, _, I.laid (a := s.heap.objs.size) (o := .dT []) (t' := s.toks) (fun _ _ q => Heap.get?_push_of_some _ q) (Nat.le_refl _) (dt_empty s.heap I.big), rfl, h _ (I.hok.fresh (Nat.le_refl _))⟩
end

/-! ### methods -/
structure M2 (X : Cx) (o : Expr) (m : Str) (apos : Pos) (e f : Expr) (cpos : Pos) : Prop where
  base : attributeBase o m X.env (eval o X.env) = eval o X.env
  few : ((backTo cpos (starEach [e, f] X.env)).all (fun x => !x.1) && (backToKw cpos (keywordEach [] X.env)).all (fun x => x.1.isSome)
    && decide (([e, f] : List Expr).length + ([] : List Keyword).length + (if ([] : List Keyword).isEmpty then 0 else 1) < 30)) = true
  line : (apos.endLine == cpos.line) = true
  trees : backTo cpos (starEach [e, f] X.env) = [(false, eval e X.env), (false, eval f X.env)]

/-- a is a dict, whatever its keys -/
def IsD (H : Hp) (a : Addr) : Prop := (∃ kvs, Rd H a (.dK kvs)) ∨ ∃ kvs, Rd H a (.dT kvs)
theorem isD_at {X : Cx} {pins : List (Addr × Obj)} {σ : St} {H : Hp} {s : Shared} {a : Addr} (I : Inv X pins σ H s) (d : IsD H a) :
    s.TypeIs (.ref a) "dict" ∧ (∀ b, Value.ref a = .ref b → ∃ ob, s.heap.get? b = some ob ∧ ob.dict = none) ∧ (a == sysModules) = false := by
  rcases d with ⟨kvs, e⟩ | ⟨kvs, e⟩
  · obtain ⟨_, hd, vs, _, dd⟩ := dk_rd I.hok e
    refine ⟨dd.typeIs, fun b q => ?_, hd⟩
    cases q
    obtain ⟨ob, _, _, h1, h2, _⟩ := dd
    exact ⟨ob, h1, h2.2.1⟩
  · obtain ⟨_, hd, xs, _, dd⟩ := dt_rd I.hok e
    refine ⟨dd.typeIs, fun b q => ?_, hd⟩
    cases q
    obtain ⟨ob, _, _, h1, h2, _⟩ := dd
    exact ⟨ob, h1, h2.2.1⟩

section
variable {X : Cx} {pins : List (Addr × Obj)} {σ : St} {H : Hp} {s : Shared} {a : Addr} {y d : V} {u r : Value} {o : Option V} {A : Around} {E : Value → Shared → Prop}
/-- d.get(y, x) -/
theorem d_get2 {Q : Value → Shared → Prop} (hu : A.units + 1 < cLine) (I : Inv X pins σ H s) (g : DGet H a y o) (ry : RelV y u) (rd : RelV d r) (h : ∀ w' s', Inv X pins σ H s' → RelV (o.getD d) w' → Q w' s') :
    wpAny (model X.prog X.w) A (call (.builtin "dict.get") [.ref a, u, r]) Q E s := by
  rcases g with ⟨kvs, k, e, ey, l⟩ | ⟨kvs, k, b, e, ey, eb, l⟩
  · subst ey
    obtain ⟨z, hd, vs, rel, dd⟩ := dk_rd I.hok e
    refine call_meetsIn PySem.F.slot_dict_get dd.typeIs PySem.F.entry_dict_get (PySem.F.args_dict_get_3 _ _ _) (meets_dict_get_default (mixKind X.prog X.w) a (kV_is ry) hd r) ⟨_, dd.mapOf, h _ _ (I.tok _) ?_⟩
    rw [l]
    exact (rel.val k).getD rd
  · subst ey
    cases (show u = Value.ref b from ry)
    obtain ⟨z, hd, xs, rel, dd⟩ := dt_rd I.hok e
    refine call_meetsIn PySem.F.slot_dict_get dd.typeIs PySem.F.entry_dict_get (PySem.F.args_dict_get_3 _ _ _) (meetsH_dict_get_default (tupleKind (mixKind X.prog X.w)) a b hd r) ⟨tupleKind_room_in1 hu, k, xs, key_of I.hok eb, dd, h _ _ (I.tok _) ?_⟩
    rw [l]
    exact (rel.val k).getD rd
end

def tDGet2 (td ty tx : TE) : TE := fun σ H Q => td σ H fun x H1 => ∃ a, x = .ref a ∧ IsD H1 a ∧ ty σ H1 fun y H2 => tx σ H2 fun z H3 => ∃ o, DGet H3 a y o ∧ Q (o.getD z) H3
section
variable {X : Cx} {o e f : Expr} {apos cpos : Pos} {td ty tx : TE}
theorem pe_dget2 (hu : X.A.units + 1 < cLine) (ho : PE X o td) (he : PE X e ty) (hf : PE X f tx) (m : M2 X o "get" apos e f cpos) : PE X (.Call (.Attribute o "get" apos) [e, f] [] cpos) (tDGet2 td ty tx) := by
  intro pins s σ H Q I h
  refine wpAny_Call_method m.base m.few m.line PySem.F.plainAttrs_dict PySem.F.slot_dict_get PySem.F.type_dict_get (thn (ho pins s σ H _ I h) fun u s1 ⟨x, H1, I1, rx, a, ex, d, q1⟩ => ?_)
  subst ex
  obtain rfl : u = Value.ref a := rx
  obtain ⟨t1, t2, _⟩ := isD_at I1 d
  refine ⟨t1, t2, ?_⟩
  rw [m.trees]
  refine Calls.callWith_builtin rfl (Calls.evalArgs_plain (Calls.spliced_cons (thn (he pins s1 σ H1 _ I1 q1) fun iv s2 ⟨y, H2, I2, ry, q2⟩ =>
    Calls.spliced_cons (thn (hf pins s2 σ H2 _ I2 q2) fun fv s3 ⟨z, H3, I3, rz, ov, g, q3⟩ => Calls.spliced_nil ?_))))
  exact d_get2 hu I3 g ry rz fun w' s4 I4 rw' => ⟨_, H3, I4, rw', q3⟩
end

/-! ### dict(d): a copy -/
section
end


section
end
end L2

namespace Att
open PySem PySem.W PySem.Calls PyProof.Rows

/-! ### the script -/
theorem ints_of_wellAll {P : Params} {h : Heap} : ∀ (ns : List Int) (vs : List Value), WellAll P h vs (ns.map WData.int) → IntsAre vs ns := by
  intro ns
  induction ns with
  | nil =>
    intro vs w
    rw [List.map_nil] at w
    cases w
    exact .nil
  | cons n ns ih =>
    intro vs w
    rw [List.map_cons] at w
    cases w with
    | cons a b =>
      cases a
      exact .cons _ _ (ih _ b)

theorem script_of {l : OpenLaw} {n : Nat} (hn : l.most = some n) {P : Params} {h : Heap} {args : List WData} {vals : List Value}
    (hpre : l.row.toRowW.claim.pre args = true) (hwl : WellAll P h vals args) :
    ∃ a vs ns, vals = [Value.ref a] ∧ args = [WData.list (ns.map WData.int)] ∧ h.get? a = some { cls := .type "list", data := .seq vs.toArray } ∧ IntsAre vs ns ∧ ns.length ≤ n := by
  have hsh : WShape.hasAll [] args [.list .int] = true := (pre_splitW hpre).1
  have hc : l.pre.holds [] { args := args } = true := (pre_splitW hpre).2
  obtain ⟨d, r, rfl, h1, h2⟩ := hasAllW_cons hsh
  obtain rfl := hasAllW_nil h2
  obtain ⟨xs, rfl, h3⟩ := hasW_list h1
  obtain ⟨ns, rfl⟩ := items_int h3
  have hlen : ns.length ≤ n := by
    unfold OpenLaw.pre at hc
    have h4 : (WTm.not (.lt (.lit (.int (n : Int))) (.len (.arg 0)))).holds [] { args := [.list (ns.map .int)] } = true := by
      have h4 := (holds_andW hc).1
      rw [hn] at h4
      exact h4
    have h5 := condW_of h4 (w_not (w_lt w_lit (w_len_list (w_arg rfl))))
    rw [List.length_map] at h5
    refine Nat.le_of_not_lt fun q => ?_
    have q' : (n : Int) < ((ns.length : Nat) : Int) := by omega
    first
      | (rw [decide_eq_true q'] at h5; exact absurd h5 (by decide))
      | (simp at h5; omega)
  cases hwl with
  | cons w1 w2 =>
    cases w2
    cases w1 with
    | list ho hall => exact ⟨_, _, ns, rfl, rfl, ho, ints_of_wellAll ns _ hall, hlen⟩

theorem post_true (l : OpenLaw) (args : List WData) : l.row.toRowW.claim.post args (.bool true) args = true :=
  postW_of (r := l.row.toRowW) (X := (true == true))
    (show WShape.has [] (.bool true) .bool = true by first | rfl | decide | simp [WShape.has, WShape.arms, WShape.armsAll])
    (show (WTm.eq .res (.lit (.bool true))).value [] { args := args, res := some (.bool true), after := args } = some (.bool (true == true)) from w_eq_bool (w_res rfl) w_lit) rfl

/-! ### the attachment: holds_open's last premise (the goal 'hc' behind k_head) from a wpAny of the law's body -/
/-- the same from a codeAny of the CALL (for a layer whose function contracts speak of calls) -/
theorem attach_call {l : OpenLaw} {n : Nat} {q : Program} {loose : List Str} {XP : (Str → Option Value) → Heap → Prop} {YP : World → Heap → Prop} {d : DefRec}
    (hn : l.most = some n) (hdf : d.params.defaults = [])
    (call : ∀ (w : World) (s₀ s₁ : Shared) (mg mb : Str → Option Value) (fa : Addr) (o : Obj) (pm cd doc : Value) (a : Addr) (vs : List Value) (ns : List Int),
      Ground q loose [] XP w s₀ mg mb s₁.heap → YP w s₁.heap →
      s₁.heap.get? fa = some o → o.data = .func (docDef d.name d.params d.body d.scope pm cd doc) → s₁.heap.CodeRec cd d.name → mg d.name = some (.ref fa) →
      s₁.heap.get? a = some { cls := .type "list", data := .seq vs.toArray } → IntsAre vs ns → ns.length ≤ n → s₁.gens = #[] →
      codeAny (model l.prog w) callerA (.call (.ref fa) ⟨[.ref a], []⟩) (fun r s' => r = .ok (.ret (.bool true)) ∧ OldK s₁.heap s'.heap ∧ s'.os = s₁.os ∧ AllBare s'.gens) s₁) :
    WalkO q loose XP YP l.row.toRowW d [] (fun f vs => PySem.call f vs) := by
  intro w s₀ s₁ mg mb G Y fa o pm cd doc dV kV ho hd hcd hD hmg hg args vals as hpre hlay hrd hwl hlo
  obtain rfl : dV = .none := Dflts.none hD hdf
  obtain rfl : kV = .none := Dflts.noKw hD
  obtain ⟨a, vs, ns, rfl, rfl, hobj, hints, hlen⟩ := script_of hn hpre hwl
  refine enter_call (codeAny_mono (call w s₀ s₁ mg mb fa o pm cd doc a vs ns G Y ho (fd_plain hd) hcd hmg hobj hints hlen hg) fun r s' hq => ?_)
  obtain ⟨rfl, h2, h3, h4⟩ := hq
  exact ⟨.inl ⟨.bool true, .bool true, [], rfl, fun _ => rfl, .bool true, post_true l _, fun _ => ⟨List.Pairwise.nil, fun _ hm => (nomatch hm)⟩⟩, h2, h3, h4⟩

/-! ### rules over ANY heap (no ledger) from facts about the written part K: the library's own take a ledger (News) for what they write -/
section
/-! the whole heap as the ledger: makes every rule that writes through a ledger a rule over any heap -/
end
end Att

namespace L2
open PySem PySem.Spec PyProof.Rows

theorem vals_ints : ∀ {vs : List Value} {ns : List Int}, IntsAre vs ns → Vals (ns.map V.int) vs
  | _, _, .nil => .nil
  | _, _, .cons n t h => .cons ⟨t, rfl⟩ (vals_ints h)

/-- nothing is tracked but the script, known to the object (or it is an object of the module) -/
def Only (H : Hp) : Prop := ∀ b, H b = none ∨ ∃ o xs, H b = some (.frz o (.lst xs))

/-- THE HEAD: the law's promise, at the heap behind the top. F, the promise of the law's def, may use that base is part of the heap (so K.In base, base.Ns mainGlobals mg stand in Mod) -/
theorem law_call {P : Program} {w : World} {K : PySem.W.Frag} {mg mb : Str → Option Value} {CX : CXT} {k : Nat} {fa a : Addr} {fd : FuncData} {x : Str} {sp : Sp} {s₁ : Shared} {vs : List Value} {ns : List Int}
    (KX : K.In s₁.heap) (hns : s₁.heap.Ns mainGlobals mg) (hb : s₁.heap.Ns builtinsNs mb) (hbb : ∀ x : Str, x ≠ "__name__" → mb x = bootBuiltins x) (hlim : s₁.heap.NoLimit) (hg : s₁.gens = #[])
    (ha : s₁.heap.get? a = some { cls := .type "list", data := .seq vs.toArray }) (hi : IntsAre vs ns) (hl : ns.length ≤ sizeLine) (hr : Room k callerA)
    (F : ∀ base : Heap, K.In base → base.Ns mainGlobals mg → FnOk P w K mg base CX k fa fd [x] sp) (hbind : ∀ (s : Shared) (u : Value), BindsTo s fd ⟨[u], []⟩ [(x, u)])
    (hsp : ∀ H : Hp, Only H → SqL K H a (ns.map V.int) → sp [.ref a] H (fun v _ => v = .bl true) fun _ _ _ => False)
    (hCX : ∀ H e s', CX [] H s₁ (fun _ _ _ => False) e s' → False) :
    codeAny (model P w) callerA (.call (.ref fa) ⟨[.ref a], []⟩) (fun r s' => r = .ok (.ret (.bool true)) ∧ OldK s₁.heap s'.heap ∧ s'.os = s₁.os ∧ AllBare s'.gens) s₁ := by
  have rv := vals_ints hi
  have lenV := hi.length
  have core : ∀ H : Hp, Only H → SqL K H a (ns.map V.int) → HOk P w H s₁.heap → (∀ b, H b ≠ none → b = a) → (H a ≠ none → K.lookup a = none) →
      codeAny (model P w) callerA (.call (.ref fa) ⟨[.ref a], []⟩) (fun r s' => r = .ok (.ret (.bool true)) ∧ OldK s₁.heap s'.heap ∧ s'.os = s₁.os ∧ AllBare s'.gens) s₁ := by
    intro H hO hS hok hA hK
    have base_of : ∀ {b : Addr} {o : Obj}, s₁.heap.get? b = some o → H b = none → (hidT s₁.heap H).get? b = some o := fun e n => hidT_get e n
    have noA : ∀ {b : Addr} {o : Obj} {es : Array DictEntry} {ep : Nat}, s₁.heap.get? b = some o → o.data = .dict es ep → H b = none := fun {b o es ep} e d => by
      cases q : H b with
      | none => rfl
      | some u =>
        have e' : b = a := hA b (by rw [q]; simp)
        subst e'
        rw [ha] at e; cases e
        have d' : Data.seq vs.toArray _ = Data.dict es ep := d
        cases d'
    have nsK : ∀ {b : Addr} {m : Str → Option Value}, s₁.heap.Ns b m → (hidT s₁.heap H).Ns b m := fun {b m} ⟨o, es, ep, e, d, r⟩ => ⟨o, es, ep, base_of e (noA e d), d, r⟩
    have hKb : K.In (hidT s₁.heap H) := fun b o e => base_of (KX b o e) (by
      cases q : H b with
      | none => rfl
      | some u =>
        have e' : b = a := hA b (by rw [q]; simp)
        subst e'
        rw [hK (by rw [q]; simp)] at e; cases e)
    have hM : Mod K mg (hidT s₁.heap H) := ⟨hKb, nsK hns, ⟨mb, nsK hb, hbb⟩, let ⟨mc, h1, h2⟩ := hlim; ⟨mc, nsK h1, h2⟩⟩
    have e0 : Env0 P w K mg (hidT s₁.heap H) callerA [] s₁ H := ⟨rfl, hM, fun b o e => of_hidT e, Nat.le_of_eq (hidT_size _ _), trivial, fun b hb => absurd (show b ∈ ([] : List Addr) from hb) (by simp), hok, .of_eq hg⟩
    refine codeAny_mono ((F _ hKb (nsK hns)).run callerA [] s₁ H ⟨[.ref a], []⟩ [.ref a] [.ref a] _ _ hr e0 (hbind s₁ (.ref a)) (.cons rfl .nil) (hsp H hO hS)) fun r s' h => ?_
    cases r with
    | error e => exact (hCX H e s' h).elim
    | ok fl =>
      cases fl with
      | next => exact False.elim h
      | brk => exact False.elim h
      | cont => exact False.elim h
      | ret u =>
        obtain ⟨v, H', os, bare, un, hok', r', q⟩ := h
        have q' : v = .bl true := q
        subst q'
        obtain rfl : u = Value.bool true := r'
        refine ⟨rfl, OldK.of_keep fun b o e => ?_, os, bare⟩
        cases q : H b with
        | none => exact un.keep b o e q (by intro z; exact absurd (show b ∈ ([] : List Addr) from z) (by simp)) (by simp)
        | some u =>
          rcases hO b with z | ⟨ob, xs, z⟩
          · rw [q] at z; cases z
          · have z2 := un.frzs b ob _ z
            obtain ⟨e1, _⟩ := hok b _ z
            obtain ⟨e2, _⟩ := hok' b _ z2
            rw [e] at e1; cases e1
            exact e2
  cases hk : K.lookup a with
  | some o =>
    have e := KX a o hk
    rw [ha] at e
    cases e
    refine core (fun _ => none) (fun _ => .inl rfl) (.inr ⟨_, vs.toArray, _, hk, rfl, rfl, rfl, by rw [List.size_toArray, lenV]; exact hl, by simpa using rv⟩) (fun b u z => by have z' : (none : Option HO) = some u := z; cases z') (fun b z => absurd rfl z) fun z => absurd rfl z
  | none =>
    refine core (fun b => if b = a then some (.frz { cls := .type "list", data := .seq vs.toArray } (.lst (ns.map V.int))) else none) (fun b => ?_) (.inl (.inr ⟨{ cls := .type "list", data := .seq vs.toArray }, if_pos rfl⟩)) (fun b u z => ?_) (fun b z => ?_) fun _ => hk
    · by_cases hb : b = a
      · exact .inr ⟨_, _, if_pos hb⟩
      · exact .inl (if_neg hb)
    · by_cases hb : b = a
      · have z' := (if_pos hb).symm.trans z
        cases z'
        subst hb
        exact ⟨ha, by rw [List.length_map]; exact hl, vs, _, rv, ha⟩
      · have z' := (if_neg hb).symm.trans z
        cases z'
    · by_cases hb : b = a
      · exact hb
      · exact absurd (if_neg hb) z
end L2

namespace L2
open PySem PySem.Spec PyProof.Rows

/-- the goal that k_head leaves (case hc), from the law's promise. F gives the function object fd (K's own) once, then the promise over every base -/
theorem walk_of {l : PySem.W.OpenLaw} {n k : Nat} {q : Program} {loose : List Str} {XP : (Str → Option Value) → Heap → Prop} {YP : World → Heap → Prop} {d : DefRec} {K : Params → PySem.W.Frag} {CX : World → CXT} {sp : World → Sp} {x : Str}
    (hn : l.most = some n) (hn2 : n ≤ sizeLine) (hdf : d.params.defaults = []) (hr : Room k callerA)
    (hY : ∀ (w : World) (h : Heap), YP w h → (K w.params).In h)
    (F : ∀ (w : World) (mg : Str → Option Value) (fa : Addr) (h : Heap), (K w.params).In h → h.Ns mainGlobals mg → mg d.name = some (.ref fa) →
      ∃ fd : FuncData, (∀ (s : Shared) (u : Value), BindsTo s fd ⟨[u], []⟩ [(x, u)]) ∧
        ∀ base : Heap, (K w.params).In base → base.Ns mainGlobals mg → FnOk l.prog w (K w.params) mg base (CX w) k fa fd [x] (sp w))
    (hsp : ∀ (w : World) (H : Hp) (a : Addr) (ns : List Int), ns.length ≤ n → Only H → SqL (K w.params) H a (ns.map V.int) → sp w [.ref a] H (fun v _ => v = .bl true) fun _ _ _ => False)
    (hCX : ∀ (w : World) (H : Hp) (s : Shared) (e : Value) (s' : Shared), CX w [] H s (fun _ _ _ => False) e s' → False) :
    PySem.W.WalkO q loose XP YP l.row.toRowW d [] (fun f vs => PySem.call f vs) := by
  refine Att.attach_call hn hdf fun w s₀ s₁ mg mb fa o pm cd doc a vs ns G Y ho hd hcd hmg hobj hints hlen hg => ?_
  have KX := hY w _ Y
  obtain ⟨fd, hb, hF⟩ := F w mg fa _ KX G.T.g hmg
  exact law_call KX G.T.g G.T.b G.T.builtins G.T.nolimit hg hobj hints (Nat.le_trans hlen hn2) hr hF hb (fun H hO hS => hsp w H a ns hlen hO hS) fun H e s' => hCX w H s₁ e s'
end L2



/-! SHORT WORDS over the layer: a def of the text, its body, what a loop and a test want. -/
namespace L2
open PySem PySem.Spec PyProof.Rows

/-! ### the text by places -/
/-- the j-th statement of a class's body -/
def inClass (s : Stmt) (j : Nat) : Stmt := match s with
  | .ClassDef _ _ _ body _ _ _ _ _ _ _ => body.getD j (.Pass ⟨0, 0, 0, 0⟩)
  | _ => .Pass ⟨0, 0, 0, 0⟩
def defArgs (s : Stmt) : Arguments := match s with
  | .FunctionDef _ a _ _ _ _ _ _ _ _ => a
  | _ => { posonlyargs := [], args := [], vararg := none, kwonlyargs := [], kw_defaults := [], kwarg := none, defaults := [] }
def defBody (s : Stmt) : List Stmt := match s with
  | .FunctionDef _ _ b _ _ _ _ _ _ _ => b
  | _ => []
def defScope (s : Stmt) : Scope := match s with
  | .FunctionDef _ _ _ _ _ _ sc _ _ _ => sc
  | _ => { kind := .function, names := [], isGenerator := false, isCoroutine := false }

/-! ### no exception leaves a def -/
abbrev CX0 : CXT := fun _ _ _ _ _ _ => False
abbrev E0 : XK := fun _ _ _ => False
theorem pass0 {X : Cx} : Passes CX0 X E0 := fun _ _ _ _ _ _ _ h => h.elim

/-! ### a def (or method) of the text as it stands behind the top -/
structure Fun (K : PySem.W.Frag) (x qual : Str) (st : Stmt) (f : Addr) (fd : FuncData) : Prop where
  ex : ∃ (oc : Value) (od : Option Addr) (kV doc pm : Value) (an : Option Addr) (cdv ct : Value) (osl : Array (Option Value)),
    fd = PySem.W.fnOf x qual (defArgs st) (defBody st) (defScope st) .none kV doc pm an cdv ct ∧ K.lookup f = some ⟨oc, od, .func fd, osl⟩ ∧ PySem.W.codeIn K cdv qual = true
  kp : PySem.W.keepIn K (.ref f) = true
section
variable {P : Program} {w : World} {K : PySem.W.Frag} {mg : Str → Option Value} {base : Heap}
/-- THE RULE for a def: its body as a term of rules, and the reading of that term -/
theorem Fun.ok {x qual : Str} {st : Stmt} {f : Addr} {fd : FuncData} {N ps : List Str} {k : Nat} {sp : Sp} (F : Fun K x qual st f fd) (S : FnScope N ps (defScope st)) (len : ∀ vs H Q E, sp vs H Q E → vs.length = ps.length)
    (hbody : ∀ (cdv : Value) (A : Around) (outer : List Env) (s : Shared) (H : Hp) (vs : List V) (Q : VK) (E : XK), Room k (A.deeper (envOfC qual (defScope st) s.heap.objs.size f cdv)) → sp vs H Q E →
      ∃ t, PSs (cxOf CX0 P w K mg base N qual (defScope st) f cdv A outer s H E).nox (defBody st) t ∧ t { nx := fun _ H' => Q .non H', rt := Q } (start N vs) H) : FnOk P w K mg base CX0 (k + 1) f fd ps sp := by
  obtain ⟨oc, od, kV, doc, pm, an, cdv, ct, osl, rfl, lk, hcd⟩ := F.ex
  refine fn_of lk hcd S len fun A outer s H vs Q E hr hsp => ?_
  obtain ⟨t, h, q⟩ := hbody cdv A outer s H vs Q E hr hsp
  exact ⟨t, h.nox, q⟩
/-- how its arguments bind (no defaults): h is «fun _ _ _ _ _ _ us hl => match us, hl with | [_, _], _ => rfl», one _ a parameter -/
theorem Fun.binds {x qual : Str} {st : Stmt} {f : Addr} {fd : FuncData} {ps : List Str} (F : Fun K x qual st f fd)
    (h : ∀ (kV doc pm : Value) (an : Option Addr) (cdv ct : Value) (us : List Value), us.length = ps.length → bindArgs (PySem.W.fnOf x qual (defArgs st) (defBody st) (defScope st) .none kV doc pm an cdv ct) ⟨us, []⟩ = pure (ps.zip us)) : Binds K fd ps [] := by
  obtain ⟨oc, od, kV, doc, pm, an, cdv, ct, osl, rfl, lk, hcd⟩ := F.ex
  exact .all (h kV doc pm an cdv ct)
theorem fun_mk {x qual : Str} {st : Stmt} {f : Addr} {oc : Value} {od an : Option Addr} {osl : Array (Option Value)} {kV doc pm cdv ct : Value} (l : K.lookup f = some ⟨oc, od, .func (PySem.W.fnOf x qual (defArgs st) (defBody st) (defScope st) .none kV doc pm an cdv ct), osl⟩)
    (c : PySem.W.codeIn K cdv qual = true) (k : PySem.W.keepIn K (.ref f) = true) : Fun K x qual st f (PySem.W.fnOf x qual (defArgs st) (defBody st) (defScope st) .none kV doc pm an cdv ct) := ⟨⟨oc, od, kV, doc, pm, an, cdv, ct, osl, rfl, l, c⟩, k⟩
end
theorem hu_of {A : Around} {k : Nat} (hr : Room k A) : A.units + 1 < cLine := Nat.lt_of_le_of_lt (Nat.add_le_add_left (by decide : 1 ≤ 64) _) hr.units
/-! ### expressions in short: the name that stands in the i-th slot -/
section
variable {X : Cx}
theorem pv (i : Nat) {x : Str} {pos : Pos} (hN : X.N[i]? = some x := by rfl) (hv : Vis X.env.scope x := by first | exact Or.inl rfl | exact Or.inr (Or.inl rfl) | exact Or.inr (Or.inr rfl)) (hd : (x == ("__debug__" : Str)) = false := by decide)
    (hcd : (x == ("__classdict__" : Str)) = false := by decide) : PE X (.Name x pos) (tVar i) := pe_var hN hv hd hcd
end

/-! ### tests -/
theorem iteF {A B : Prop} (h : B) : if false = true then A else B := by
  rw [if_neg Bool.false_ne_true]
  exact h
theorem iteT {A B : Prop} (h : A) : if true = true then A else B := by
  rw [if_pos rfl]
  exact h
theorem ite2 {c A B : Prop} [Decidable c] (h1 : c → A) (h2 : ¬ c → B) : if c then A else B := by
  by_cases h : c
  · rw [if_pos h]
    exact h1 h
  · rw [if_neg h]
    exact h2 h
/-! ### heaps -/
/-- all that was tracked is as it was -/
def Same (H H' : Hp) : Prop := ∀ b o, H b = some o → H' b = some o
theorem Same.refl (H : Hp) : Same H H := fun _ _ h => h
theorem Same.trans {H H1 H2 : Hp} (a : Same H H1) (b : Same H1 H2) : Same H H2 := fun c o h => b c o (a c o h)
theorem Same.free {H H' : Hp} (e : Same H H') {l : Addr} (h : H' l = Option.none) : H l = Option.none := by
  cases q : H l with
  | none => rfl
  | some o =>
    rw [e l o q] at h
    cases h
theorem Same.seq {K : PySem.W.Frag} {H H' : Hp} {a : Addr} {xs : List V} (e : Same H H') (h : SqL K H a xs) : SqL K H' a xs := by
  rcases h with (h | ⟨o, h⟩) | h
  · exact .inl (.inl (e _ _ h))
  · exact .inl (.inr ⟨o, e _ _ h⟩)
  · exact .inr h

end L2


namespace L2
open PySem PySem.Spec PyProof.Rows
section
end
/-! ### a dict's pairs: keys that differ -/
section
end
end L2


set_option Elab.async false
set_option linter.all false
set_option maxRecDepth 100000
/-! Comprehensions of one clause over the layer: a block of its own, with the cells that it takes from around it. -/
namespace L2
open PySem PySem.Spec PyProof.Rows

def clOf (env : Env) : List (Str × NameKind) → List (Str × Addr) → List (Str × Addr)
  | [], acc => acc
  | (n, k) :: r, acc => if (k == NameKind.free) = true then clOf env r ((n, (env.cells.lookup n).getD 0) :: acc) else clOf env r acc

theorem clOf_lookup {env : Env} {x : Str} : ∀ (l : List (Str × NameKind)) (acc : List (Str × Addr)),
    (clOf env l acc).lookup x = if (l.any fun p => (p.1 == x) && (p.2 == NameKind.free)) = true then some ((env.cells.lookup x).getD 0) else acc.lookup x
  | [], acc => by simp [clOf]
  | (n, k) :: r, acc => by
    unfold clOf
    by_cases hk : (k == NameKind.free) = true
    · rw [if_pos hk, clOf_lookup r]
      by_cases hr : (r.any fun p => (p.1 == x) && (p.2 == NameKind.free)) = true
      · rw [if_pos hr, if_pos]
        rw [List.any_cons, hr, Bool.or_true]
      · rw [if_neg hr]
        have hr' : (r.any fun p => (p.1 == x) && (p.2 == NameKind.free)) = false := (Bool.not_eq_true _).mp hr
        rw [List.any_cons, hr', Bool.or_false, hk, Bool.and_true, List.lookup_cons]
        by_cases hn : n = x
        · subst hn
          simp
        · have h1 : (n == x) = false := by simpa using hn
          have h2 : (x == n) = false := by simpa using fun z => hn (Eq.symm z)
          simp [h1, h2]
    · rw [if_neg hk, clOf_lookup r]
      have hk' : (k == NameKind.free) = false := by simpa using hk
      rw [List.any_cons, hk', Bool.and_false, Bool.false_or]

theorem closure_clOf {env : Env} {scope : Scope} (h : ∀ n k, (n, k) ∈ scope.names → (k == NameKind.free) = true → (env.cells.lookup n).isSome = true) : closureFor scope env = pure (clOf env scope.names []) := by
  have go : ∀ (l : List (Str × NameKind)) (acc : List (Str × Addr)), (∀ n k, (n, k) ∈ l → (k == NameKind.free) = true → (env.cells.lookup n).isSome = true) →
      (forIn l acc (fun (x : Str × NameKind) (r : List (Str × Addr)) => match x with
        | (name, kind) => if (kind == NameKind.free) = true then (do let a ← cellOf env name; pure (ForInStep.yield ((name, a) :: r))) else pure (ForInStep.yield r)) : Sem (List (Str × Addr))) = pure (clOf env l acc) := by
    intro l
    induction l with
    | nil => intro acc _; rfl
    | cons p r ih =>
      intro acc hp
      obtain ⟨n, k⟩ := p
      rw [List.forIn_cons]
      unfold clOf
      by_cases hk : (k == NameKind.free) = true
      · obtain ⟨c, hc⟩ := Option.isSome_iff_exists.mp (hp n k List.mem_cons_self hk)
        have hc1 : cellOf env n = pure c := by simp only [cellOf, hc]
        simp only [hk, if_true, hc1, hc, Option.getD_some]
        have := ih ((n, c) :: acc) (fun n' k' h' => hp n' k' (List.mem_cons_of_mem _ h'))
        simpa using this
      · simp only [hk, if_false]
        have := ih acc (fun n' k' h' => hp n' k' (List.mem_cons_of_mem _ h'))
        simpa using this
  have := go scope.names [] h
  simp only [closureFor]
  simpa using this

/-- what a comprehension's scope must be, beside the scope around it; cs: the names that it reads from around -/
def compOk (sc out : Scope) (xs : List Str) (cs : List Str) : Bool :=
  (sc.kind == .function) && (out.kind == .function) && sc.names.all (fun p => p.2 != NameKind.cell) && sc.names.all (fun p => p.2 != NameKind.local || sc.names.lookup p.1 == some .local) && xs.all (fun x => sc.names.lookup x == some .local)
    && sc.names.all (fun p => p.2 != NameKind.free || out.names.lookup p.1 == some .cell) && cs.all (fun c => sc.names.lookup c == some .free)

structure CompOk (sc out : Scope) (xs : List Str) (cs : List Str) : Prop where
  kind : sc.kind = .function
  okind : out.kind = .function
  cell : ∀ y ∈ sc.names, y.2 ≠ .cell
  names : ∀ y ∈ sc.names, y.2 = .local → sc.names.lookup y.1 = some .local
  x : ∀ x ∈ xs, sc.names.lookup x = some .local
  free : ∀ n k, (n, k) ∈ sc.names → k = .free → out.names.lookup n = some .cell
  cs : ∀ c ∈ cs, sc.names.lookup c = some .free
theorem compOk.mk {sc out : Scope} {xs : List Str} {cs : List Str} (h : compOk sc out xs cs = true) : CompOk sc out xs cs := by
  unfold compOk at h
  simp only [Bool.and_eq_true, List.all_eq_true, beq_iff_eq, bne_iff_ne, ne_eq, Bool.or_eq_true] at h
  obtain ⟨⟨⟨⟨⟨⟨h1, h2⟩, h3⟩, h4⟩, h5⟩, h6⟩, h7⟩ := h
  exact ⟨h1, h2, h3, fun y hy hl => (h4 y hy).resolve_left fun z => z hl, h5, fun n k hm hk => (h6 (n, k) hm).resolve_left fun z => z hk, h7⟩

theorem relabel_free {sc : Scope} {env : Env} {n : Str} (hk : env.scope.kind = .function) (hout : env.scope.names.lookup n = some .cell) (h : sc.names.lookup n = some .free) : (relabel sc env).names.lookup n = some .cell := by
  unfold relabel
  have go : ∀ l : List (Str × NameKind), l.lookup n = some .free →
      (l.map fun (p : Str × NameKind) => if (p.2 == NameKind.free && env.scope.kind == .function && env.kindOf p.1 == some .cell) = true then (p.1, NameKind.cell) else (p.1, p.2)).lookup n = some .cell := by
    intro l
    induction l with
    | nil => intro h; simp at h
    | cons p r ih =>
      intro h
      obtain ⟨m, k⟩ := p
      rw [List.lookup_cons] at h
      cases hm : n == m with
      | true =>
        rw [hm] at h
        cases h
        have e : n = m := by simpa using hm
        subst e
        have hko : env.kindOf n = some .cell := hout
        rw [List.map_cons]
        simp [hk, hko]
      | false =>
        rw [hm] at h
        rw [List.map_cons]
        by_cases hc : (k == NameKind.free && env.scope.kind == .function && env.kindOf m == some .cell) = true
        · rw [if_pos hc, List.lookup_cons, hm]
          exact ih h
        · rw [if_neg hc, List.lookup_cons, hm]
          exact ih h
  exact go sc.names h

/-- the context of a comprehension's block -/
def cxComp (X : Cx) (xs : List Str) (capt : List Nat) (scope : Scope) (C : Addr) (s : Shared) (H : Hp) (ex : List Addr) : Cx :=
  { X with N := xs ++ capt.map (fun j => X.N.getD j ""), s₀ := s, H₀ := H, env := compEnvC scope (clOf X.env scope.names []) C X.env, outer := X.stack, ex := ex, fn := fun _ => false, pn := [] }

def PTs (X : Cx) (ifs : List Expr) (t : TT) : Prop :=
  ∀ (pins : List (Addr × Obj)) (s : Shared) (σ : St) (H : Hp) (Q : Bool → Hp → Prop), Inv X pins σ H s → t σ H Q →
    wpAny (model X.prog X.w) X.A (forIn ifs true fun c r => if r = true then do let ok ← isTrue c X.env (eval c X.env); pure (ForInStep.yield ok) else pure (ForInStep.yield r)) (TP X pins σ Q) X.xe s
def tYes : TT := fun _ H Q => Q true H
theorem pts_nil {X : Cx} : PTs X [] tYes := fun pins s σ H Q I h => by
  show wpAny _ _ (pure true) _ _ _
  exact wpAny_pure ⟨H, I, h⟩
theorem pts_one {X : Cx} {c : Expr} {t : TT} (hc : PT X c t) : PTs X [c] t := fun pins s σ H Q I h => by
  rw [List.forIn_cons]
  simp only [if_true]
  refine wpAny_bind (wpAny_bind (thn (hc pins s σ H Q I h) fun b s1 q => ?_))
  refine wpAny_pure ?_
  show wpAny _ _ (forIn [] b _) _ _ _
  exact wpAny_pure q

/-- the loop of a comprehension, with the step between -/
theorem compLoop_own {prog : Program} {w : World} {A : Around} {R : Result → Shared → Prop} {s : Shared} {elt target iter : Expr} {ifs : List Expr} {scope : Scope} {pos : Pos} {it acc : Value} {env : Env} (I : Nat → Shared → Prop)
    (turn : ∀ n s, I n s → wpAny (model prog w) A (pyNext it) (fun r s₁ => match r with
      | none => R (.ok .next) s₁
      | some v => wpAny (model prog w) A (letOwnedTupleGo target it v) (fun _ s₁' => wpAny (model prog w) A (assign target env v) (fun _ s₂ =>
          wpAny (model prog w) A (forIn ifs true fun c r => if r = true then do let ok ← isTrue c env (eval c env); pure (ForInStep.yield ok) else pure (ForInStep.yield r)) (fun ok s₃ =>
            if ok = true then wpAny (model prog w) A (eval elt env) (fun x s₄ =>
              wpAny (model prog w) A (call (.builtin "list.append") [acc, x]) (fun _ s₅ => ∃ m, m < n ∧ I m s₅) (notedBy (model prog w) A env fun e s' => R (.error e) s') s₄) (notedBy (model prog w) A env fun e s' => R (.error e) s') s₃
            else ∃ m, m < n ∧ I m s₃) (notedBy (model prog w) A env fun e s' => R (.error e) s') s₂) (notedBy (model prog w) A env fun e s' => R (.error e) s') s₁') (notedBy (model prog w) A env fun e s' => R (.error e) s') s₁) (notedBy (model prog w) A env fun e s' => R (.error e) s') s)
    (n : Nat) (h : I n s) : codeAny (model prog w) A (.compLoop (.ListComp elt [⟨target, iter, ifs, 0⟩] scope pos) 0 it acc env) R s := by
  refine codeAny_loop rfl I (fun n s hI => ?_) n h
  show wpAny _ A ((compTurn (.ListComp elt [⟨target, iter, ifs, 0⟩] scope pos) 0 it acc env).onRaise (fun x => do noteFrame x env; theTreesLotGoes x)) _ _ s
  refine wpAny_noted ?_
  rw [compTurn_list]
  refine wpAny_bind (wpAny_standAt (wpAny_bind (wpAny_mono (turn n s hI) (fun r s₁ h₁ => ?_) fun _ _ h' => h')))
  cases r with
  | none => exact wpAny_pure h₁
  | some v =>
    refine wpAny_bind (wpAny_mono h₁ (fun _ s₁' h₁' => ?_) fun _ _ h' => h')
    refine wpAny_bind (wpAny_mono h₁' (fun _ s₂ h₂ => wpAny_bind (wpAny_mono h₂ (fun ok s₃ h₃ => ?_) fun _ _ h' => h')) fun _ _ h' => h')
    cases ok with
    | false => exact wpAny_pure ⟨rfl, h₃⟩
    | true =>
      exact wpAny_bind (wpAny_bind (wpAny_mono h₃ (fun x s₄ h₄ => wpAny_bind (wpAny_mono h₄ (fun _ s₅ h₅ => wpAny_pure (wpAny_pure ⟨rfl, h₅⟩)) fun _ _ h' => h')) fun _ _ h' => h'))

section
variable {X : Cx} {pins : List (Addr × Obj)} {σ : St} {H H2 : Hp} {s s2 : Shared} {xs : List Str} {capt : List Nat} {scope : Scope} {fp : List Addr}

abbrev emptyL : Obj := { cls := .type "list", dict := none, data := .seq ([] : List Value).toArray }
theorem Inv.stk_lt (I : Inv X pins σ H s) {b : Addr} (hb : s.heap.objs.size ≤ b) : b ∉ frs X.stack := fun z => by
  rcases List.mem_cons.mp (I.stkSub b z) with e | e
  · exact absurd (Nat.lt_of_lt_of_le I.lt hb) (by rw [e]; exact Nat.lt_irrefl _)
  · exact I.nofs hb e

/-- the block's context stands -/
theorem comp_cxok (I : Inv X pins σ H2 s2) (ok : CompOk scope X.env.scope xs (capt.map fun j => X.N.getD j "")) (hf : ∀ b ∈ fp, FpOk X pins H2 b) (hfo : ∀ b ∈ fp, ∃ o, s2.heap.get? b = some o) {HH : Heap} (eH : HH = s2.heap.push emptyL) :
    (cxComp X xs capt scope HH.objs.size { s2 with heap := HH } H2 (s2.heap.objs.size :: fp)).Ok := by
  have hsz : HH.objs.size = s2.heap.objs.size + 1 := by rw [eH, Heap.size_push]
  have look : ∀ y c, (clOf X.env scope.names []).lookup y = some c → X.env.cells.lookup y = some c := fun y c e => by
    rw [clOf_lookup] at e
    split at e
    · rename_i ha
      obtain ⟨p, hp, hq⟩ := List.any_eq_true.mp ha
      simp only [Bool.and_eq_true, beq_iff_eq] at hq
      obtain ⟨q1, q2⟩ := hq
      subst q1
      obtain ⟨c', hc'⟩ := I.ok.has p.1 (.inl (ok.free p.1 p.2 hp q2))
      rw [hc'] at e ⊢
      exact e
    · cases e
  have keep : ∀ b o, s2.heap.get? b = some o → HH.get? b = some o := fun b o e => by rw [eH]; exact Heap.get?_push_of_some _ e
  refine ⟨I.ok.mod, ok.kind, I.ok.glob, I.ok.blt, Nat.le_refl _, fun y z c h1 h2 => I.ok.inj y z c (look y c h1) (look z c h2), fun y hy => ?_, (fun y c h _ => nomatch h), I.ok.hd, I.ok.frames, .inl rfl, fun b hb => ?_, fun b o e => ?_, ?_, fun b o e hb => ?_, fun b hb => ?_, ?_, fun b hb => I.stkFree b hb⟩
  · -- each cell's name has its cell
    have hy' : (relabel scope X.env).names.lookup y = some .cell ∨ (relabel scope X.env).names.lookup y = some .free := hy
    have inn : ∀ (l : List (Str × NameKind)) (k : NameKind), (∀ p ∈ l, p.2 ≠ .cell) → (k = .cell ∨ k = .free) →
        (l.map fun (p : Str × NameKind) => if (p.2 == NameKind.free && X.env.scope.kind == .function && X.env.kindOf p.1 == some .cell) = true then (p.1, NameKind.cell) else (p.1, p.2)).lookup y = some k → ∃ p ∈ l, p.1 = y ∧ p.2 = .free := by
      intro l k hnc hkk
      induction l with
      | nil => intro h; simp at h
      | cons p r ih =>
        intro h
        obtain ⟨m, k'⟩ := p
        rw [List.map_cons] at h
        by_cases hc : (k' == NameKind.free && X.env.scope.kind == .function && X.env.kindOf m == some .cell) = true
        · rw [if_pos hc, List.lookup_cons] at h
          have hfree : k' = .free := by
            simp only [Bool.and_eq_true, beq_iff_eq] at hc
            exact hc.1.1
          cases hm : y == m with
          | true => exact ⟨(m, k'), List.mem_cons_self, by simpa using Eq.symm (by simpa using hm), hfree⟩
          | false =>
            rw [hm] at h
            obtain ⟨p, hp, q⟩ := ih (fun p hp => hnc p (List.mem_cons_of_mem _ hp)) h
            exact ⟨p, List.mem_cons_of_mem _ hp, q⟩
        · rw [if_neg hc, List.lookup_cons] at h
          cases hm : y == m with
          | true =>
            rw [hm] at h
            cases h
            rcases hkk with z | z
            · exact absurd z (hnc (m, k') List.mem_cons_self)
            · exact ⟨(m, k'), List.mem_cons_self, by simpa using Eq.symm (by simpa using hm), z⟩
          | false =>
            rw [hm] at h
            obtain ⟨p, hp, q⟩ := ih (fun p hp => hnc p (List.mem_cons_of_mem _ hp)) h
            exact ⟨p, List.mem_cons_of_mem _ hp, q⟩
    have hex : ∃ p ∈ scope.names, p.1 = y ∧ p.2 = .free := by
      rcases hy' with h | h
      · exact inn scope.names .cell ok.cell (.inl rfl) h
      · exact inn scope.names .free ok.cell (.inr rfl) h
    obtain ⟨p, hp, q1, q2⟩ := hex
    refine ⟨_, (clOf_lookup (env := X.env) scope.names []).trans (if_pos (List.any_eq_true.mpr ⟨p, hp, ?_⟩))⟩
    simp [q1, q2]
  · -- the records that turn are not the frame's
    rcases List.mem_cons.mp hb with z | z
    · subst z
      refine ⟨Nat.ne_of_lt (show s2.heap.objs.size < HH.objs.size by omega), fun y c e q => ?_⟩
      obtain ⟨v, hv⟩ := I.cell y c (look y c e)
      have := hv.lt
      rw [q] at this
      exact absurd this (Nat.lt_irrefl _)
    · obtain ⟨o, ho⟩ := hfo b z
      exact ⟨Nat.ne_of_lt (Nat.lt_of_lt_of_le (Heap.lt_size ho) (show s2.heap.objs.size ≤ HH.objs.size by omega)), fun y c e => (hf b z).2.2.2.2.1 y c (look y c e)⟩
  · obtain ⟨h1, h2⟩ := I.bs b o e
    exact ⟨keep b o h1, h2⟩
  · show X.base.objs.size ≤ HH.objs.size
    have h1 := I.ok.bsz
    have h2 := I.sz
    omega
  · -- the base's objects do not turn
    have h0 := (I.bs b o e).1
    rcases List.mem_cons.mp hb with z | z
    · subst z
      exact absurd (Heap.lt_size h0) (Nat.lt_irrefl _)
    · rcases (hf b z).2.2.2.1 with q | q
      · exact I.ok.noex b o e q
      · have h1 := (I.ok.bs b o e).1
        exact absurd (Nat.lt_of_lt_of_le (Heap.lt_size h1) q) (Nat.lt_irrefl _)
  · show b ∉ frs X.stack
    rcases List.mem_cons.mp hb with z | z
    · subst z
      exact I.stk_lt (Nat.le_refl _)
    · intro q
      rcases List.mem_cons.mp (I.stkSub b q) with e | e
      · exact (hf b z).2.1 e
      · exact (hf b z).2.2.1 e
  · show HH.FunFrames X.base X.stack
    exact Heap.FunFrames.of_keeps (fun b o e _ => ⟨o, keep b o e, rfl⟩) I.stack

/-- the block's first state -/
theorem comp_inv (I : Inv X pins σ H2 s2) (ok : CompOk scope X.env.scope xs (capt.map fun j => X.N.getD j "")) (hcap : ∀ j ∈ capt, j < X.N.length) (hf : ∀ b ∈ fp, FpOk X pins H2 b) (hfo : ∀ b ∈ fp, ∃ o, s2.heap.get? b = some o)
    {HH h1 : Heap} {t : Nat} {m : Str → Option Value} {oc : Obj} (eH : HH = s2.heap.push emptyL) (hns : h1.Ns HH.objs.size m) (hsb : Heap.SameBut HH.objs.size (HH.push oc) h1) :
    Inv (cxComp X xs capt scope HH.objs.size { s2 with heap := HH } H2 (s2.heap.objs.size :: fp)) [(s2.heap.objs.size, emptyL)] (List.replicate xs.length none ++ capt.map fun j => (σ[j]?).join) H2 { s2 with heap := h1, toks := t } := by
  have hsz : HH.objs.size = s2.heap.objs.size + 1 := by rw [eH, Heap.size_push]
  have look : ∀ y c, (clOf X.env scope.names []).lookup y = some c → X.env.cells.lookup y = some c := fun y c e => by
    rw [clOf_lookup] at e
    split at e
    · rename_i ha
      obtain ⟨p, hp, hq⟩ := List.any_eq_true.mp ha
      simp only [Bool.and_eq_true, beq_iff_eq] at hq
      obtain ⟨q1, q2⟩ := hq
      subst q1
      obtain ⟨c', hc'⟩ := I.ok.has p.1 (.inl (ok.free p.1 p.2 hp q2))
      rw [hc'] at e ⊢
      exact e
    · cases e
  have keep0 : ∀ b o, HH.get? b = some o → h1.get? b = some o := fun b o e => hsb.extBut b o (Nat.ne_of_lt (Heap.lt_size e)) (Heap.get?_push_of_some _ e)
  have keep : ∀ b o, s2.heap.get? b = some o → h1.get? b = some o := fun b o e => keep0 b o (by rw [eH]; exact Heap.get?_push_of_some _ e)
  have hD : h1.get? s2.heap.objs.size = some emptyL := keep0 _ _ (by rw [eH]; exact Heap.get?_push_size _ rfl)
  refine ⟨comp_cxok I ok hf hfo eH, rfl, I.bare, Un.kept keep0, ⟨m, hns, fun i y v h1' h2 h3 => ?_⟩, fun y c e => ?_, I.hok.fresh (show s2.heap.objs.size ≤ HH.objs.size by omega), fun y c e => I.freeC y c (look y c e), fun p hp => ?_, I.hok.kept keep, ?_⟩
  · by_cases hi : i < xs.length
    · have h2' : (List.replicate xs.length (none : Option V))[i]? = some (some v) := by
        rw [← List.getElem?_append_left (l₂ := capt.map fun j => (σ[j]?).join) (by simpa using hi)]
        exact h2
      rw [List.getElem?_replicate_of_lt hi] at h2'
      cases h2'
    · have h1'' : (capt.map fun j => X.N.getD j "")[i - xs.length]? = some y := by
        rw [← List.getElem?_append_right (l₁ := xs) (by omega)]
        exact h1'
      have h2' : (capt.map fun j => (σ[j]?).join)[i - xs.length]? = some (some v) := by
        have q := List.getElem?_append_right (l₁ := List.replicate xs.length (none : Option V)) (l₂ := capt.map fun j => (σ[j]?).join) (i := i) (by simpa using hi)
        rw [List.length_replicate] at q
        rw [← q]
        exact h2
      rw [List.getElem?_map] at h1'' h2'
      cases hj : capt[i - xs.length]? with
      | none => rw [hj] at h1''; cases h1''
      | some j =>
        rw [hj] at h1'' h2'
        have ey : X.N.getD j "" = y := by simpa using h1''
        have ev : (σ[j]?).join = some v := by simpa using h2'
        have hjm : j ∈ capt := List.mem_of_getElem? hj
        have hjl := hcap j hjm
        have hN : X.N[j]? = some y := by
          rw [List.getD_eq_getElem?_getD, List.getElem?_eq_getElem hjl] at ey
          rw [List.getElem?_eq_getElem hjl]
          simpa using ey
        have hσ : σ[j]? = some (some v) := by
          cases e : σ[j]? with
          | none => rw [e] at ev; cases ev
          | some o => rw [e] at ev; have ev' : o = some v := ev; rw [ev']
        have hfr : scope.names.lookup y = some .free := ok.cs y (List.mem_map.mpr ⟨j, hjm, ey⟩)
        have hout : X.env.scope.names.lookup y = some .cell := ok.free y .free (PySem.mem_of_lookup hfr) rfl
        obtain ⟨mX, _, hl⟩ := I.loc
        obtain ⟨u, ru, lk⟩ := hl j y v hN hσ (.inr (.inl hout))
        refine ⟨u, ru, ?_⟩
        have hko : X.env.kindOf y = some .cell := hout
        rcases lk with ⟨z, _⟩ | ⟨_, c, hc, hcell⟩
        · rw [hko] at z; cases z
        · refine .inr ⟨.inl (relabel_free ok.okind hout hfr), c, ?_, hcell.keeps keep⟩
          show (clOf X.env scope.names []).lookup y = some c
          rw [clOf_lookup, if_pos (List.any_eq_true.mpr ⟨(y, .free), PySem.mem_of_lookup hfr, by simp⟩), hc]
          rfl
  · obtain ⟨v, hv⟩ := I.cell y c (look y c e)
    exact ⟨v, hv.keeps keep⟩
  · have hp' : p = (s2.heap.objs.size, emptyL) := by simpa [cxComp] using hp
    subst hp'
    refine ⟨hD, I.hok.fresh (Nat.le_refl _), Nat.ne_of_lt (show s2.heap.objs.size < HH.objs.size by omega), I.stk_lt (Nat.le_refl _), fun v z => by cases z⟩
  · show _ = (xs ++ capt.map fun j => X.N.getD j "").length
    simp

/-- W: a comprehension's invariant, by the turn, a measure, the items so far; N: what a turn is to reach; n slots of the target's, c what is taken from around -/
def CompG (J : It) (n : Nat) (c : St) (g : TG) (tt : TT) (te : TE) (H1 : Hp) (Fin : List V → Hp → Prop) : Prop :=
  ∃ W : Nat → Nat → List V → Hp → Prop, (∃ m, W 0 m [] H1) ∧ ∀ i m ys H, W i m ys H → (J.stop i H ∧ Fin ys H) ∨
    (J.go i H ∧ ys.length < sizeLine ∧ ∃ N : List V → Hp → Prop, (∀ ys' H', N ys' H' → ∃ m', m' < m ∧ W (i + 1) m' ys' H') ∧
      ∀ x H', J.yld i H x H' → ∀ os : St, os.length = n → g x (os ++ c) H' fun σ1 H1 => tt σ1 H1 fun b H2 => if b = true then te σ1 H2 fun y H3 => N (ys ++ [y]) H3 else N ys H2)
def tCompG (n : Nat) (g : TG) (capt : List Nat) (wi : TI) (tt : TT) (te : TE) : TE := fun σ H Q => wi σ H fun J H1 =>
  CompG J n (capt.map fun j => (σ[j]?).join) g tt te H1 fun ys H => ∀ l, H l = none → Q (.ref l) (upd H l (.lst ys))
/-- the target writes its own slots alone -/
def Shp (n : Nat) (g : TG) : Prop := ∀ v (os c : St) H Q, os.length = n → g v (os ++ c) H Q → g v (os ++ c) H fun σ' H' => (∃ os' : St, os'.length = n ∧ σ' = os' ++ c) ∧ Q σ' H'
/-- the same, the target a name -/
def CompW (J : It) (S : V → St) (tt : TT) (te : TE) (H1 : Hp) (Fin : List V → Hp → Prop) : Prop :=
  ∃ W : Nat → Nat → List V → Hp → Prop, (∃ m, W 0 m [] H1) ∧ ∀ i m ys H, W i m ys H → (J.stop i H ∧ Fin ys H) ∨
    (J.go i H ∧ ys.length < sizeLine ∧ ∃ N : List V → Hp → Prop, (∀ ys' H', N ys' H' → ∃ m', m' < m ∧ W (i + 1) m' ys' H') ∧
      ∀ x H', J.yld i H x H' → tt (S x) H' fun b H2 => if b = true then te (S x) H2 fun y H3 => N (ys ++ [y]) H3 else N ys H2)
def tComp (capt : List Nat) (wi : TI) (tt : TT) (te : TE) : TE := fun σ H Q => wi σ H fun J H1 =>
  CompW J (fun x => some x :: capt.map fun j => (σ[j]?).join) tt te H1 fun ys H => ∀ l, H l = none → Q (.ref l) (upd H l (.lst ys))
theorem CompW.g {J : It} {c : St} {tt : TT} {te : TE} {H : Hp} {Fin : List V → Hp → Prop} (h : CompW J (fun x => some x :: c) tt te H Fin) : CompG J 1 c (gName 0) tt te H Fin := by
  obtain ⟨W, w0, st⟩ := h
  refine ⟨W, w0, fun i m ys H w => ?_⟩
  rcases st i m ys H w with q | ⟨go, hl, N, hN, step⟩
  · exact .inl q
  · refine .inr ⟨go, hl, N, hN, fun x H' y os hos => ?_⟩
    obtain ⟨o, rfl⟩ := List.length_eq_one_iff.mp hos
    exact step x H' y
theorem shp_name : Shp 1 (gName 0) := fun v os c H Q hos h => by
  obtain ⟨o, rfl⟩ := List.length_eq_one_iff.mp hos
  exact ⟨⟨[some v], rfl, rfl⟩, h⟩
theorem shp_tup2 {K : PySem.W.Frag} : Shp 2 (gTup K 2 (gCons (gName 0) (gCons (gName 1) gNil))) := fun v os c H Q hos h => by
  match os, hos with
  | [a, b], _ =>
  obtain ⟨p, xs, rfl, hp, hl, v1, r1, rfl, v2, r2, rfl, rfl, q⟩ := h
  exact ⟨p, _, rfl, hp, hl, v1, _, rfl, v2, _, rfl, rfl, ⟨[some v1, some v2], rfl, rfl⟩, q⟩

/-- an untracked object becomes tracked -/
theorem HOk.track {P : Program} {w : World} {H : Hp} {h : Heap} {a : Addr} {o : HO} (k : HOk P w H h) (n : H a = none) (new : ObjOk P w (upd H a o) h a o) : HOk P w (upd H a o) h := fun b u e => by
  by_cases hb : b = a
  · subst hb; rw [upd_same] at e; cases e; exact new
  · rw [upd_ne hb] at e
    exact (k b u e).stay (fun _ _ _ q => q) (fun c q => by rw [upd_ne (ne_of_none q n)]; exact q) fun c xs q => by rw [upd_ne (ne_of_none q n)]; exact q

theorem comp_block {elt iter tg : Expr} {g : TG} {ifs : List Expr} {pos : Pos} {tt : TT} {te : TE} {it : Addr} {tn : Nat → Heap → Prop} {J : It} {RR : Value → Addr → Result → Shared → Prop}
    (hx0 : ∀ e s, ¬ X.xe e s) (hc : X.calm = true) (ok : CompOk scope X.env.scope xs (capt.map fun j => X.N.getD j "")) (hcap : ∀ j ∈ capt, j < X.N.length) (hG : ∀ C s H ex, PG (cxComp X xs capt scope C s H ex) tg g) (hgs : Shp xs.length g)
    (hT : ∀ C s H ex, PTs (cxComp X xs capt scope C s H ex) ifs tt) (hE : ∀ C s H ex, PE (cxComp X xs capt scope C s H ex) elt te)
    (I2 : Inv X pins σ H2 s2) (T : Turn X.prog X.w X.K tg J fp it tn) (st2 : tn 0 s2.heap) (f2 : ∀ b ∈ fp, FpOk X pins H2 b)
    (Fin : List V → Hp → Prop) (hW : CompG J xs.length (capt.map fun j => (σ[j]?).join) g tt te H2 Fin)
    (hRR : ∀ D C s' ys H' oc, H' D = none → Fin ys H' → Inv X pins σ (upd H' D (.lst ys)) s' → s'.heap.get? C = some oc → (∃ m, s'.heap.Ns C m) → C ≠ D → H' C = none → C ≠ X.env.locals → C ∉ frs X.stack → X.s₀.heap.objs.size ≤ C → (∀ y c, X.env.cells.lookup y = some c → c ≠ C) → (∀ p ∈ X.pn ++ pins, p.1 ≠ C) →
      (∀ v, oc.data ≠ .cell v) → RR (.ref D) C (.ok .next) s') :
    wpAny (model X.prog X.w) X.A (newList []) (fun acc s₃ => wpAny (model X.prog X.w) X.A (newFunctionEnv scope X.env.globals (clOf X.env scope.names []) [] X.env.qual none .none (some X.env)) (fun cenv s₄ =>
      codeAny (model X.prog X.w) X.A (.compStart (.ListComp elt [⟨tg, iter, ifs, 0⟩] scope pos) 0 (.ref it) acc { cenv with scope := relabel scope X.env }) (RR acc cenv.locals) s₄) X.xe s₃) X.xe s2 := by
  refine wpAny_newObj_type (wpAny_newFunctionEnv ok.cell (by intro y hy; simp at hy) (fun h1 hns hsb => ?_) ok.kind)
  dsimp only at hns hsb ⊢
  generalize eH : s2.heap.push { cls := .type "list", dict := none, data := .seq ([] : List Value).toArray } = HH at hns hsb ⊢
  have eH' : HH = s2.heap.push emptyL := eH.symm
  have hsz : HH.objs.size = s2.heap.objs.size + 1 := by rw [eH', Heap.size_push]
  have hfo : ∀ b ∈ fp, ∃ o, s2.heap.get? b = some o := fun b hb => let ⟨o, ho, _⟩ := T.obj 0 _ st2 b hb; ⟨o, ho⟩
  have flt : ∀ b ∈ fp, b < s2.heap.objs.size := fun b hb => let ⟨o, ho⟩ := hfo b hb; Heap.lt_size ho
  have keep1 : ∀ b o, s2.heap.get? b = some o → h1.get? b = some o := fun b o e =>
    hsb.extBut b o (Nat.ne_of_lt (Nat.lt_of_lt_of_le (Heap.lt_size e) (show s2.heap.objs.size ≤ HH.objs.size by omega))) (Heap.get?_push_of_some _ (by rw [eH']; exact Heap.get?_push_of_some _ e))
  have I4 := comp_inv (t := s2.toks + ([] : List (Str × Value)).length) I2 ok hcap f2 hfo eH' hns hsb
  have st4 : tn 0 h1 := T.keep 0 _ _ st2 fun b _ o e => keep1 b o e
  obtain ⟨W, ⟨m0, w0⟩, turn⟩ := hW
  generalize hX : cxComp X xs capt scope HH.objs.size { s2 with heap := HH } H2 (s2.heap.objs.size :: fp) = Y at I4
  have eProg : Y.prog = X.prog := by rw [← hX]; rfl
  have eW : Y.w = X.w := by rw [← hX]; rfl
  have eK : Y.K = X.K := by rw [← hX]; rfl
  have eA : Y.A = X.A := by rw [← hX]; rfl
  have eEnv : Y.env = compEnvC scope (clOf X.env scope.names []) HH.objs.size X.env := by rw [← hX]; rfl
  have eXe : Y.xe = X.xe := by rw [← hX]; rfl
  have eCalm : Y.calm = true := by rw [← hX]; exact hc
  have ePn : Y.pn = [] := by rw [← hX]; rfl
  have eEx : Y.ex = s2.heap.objs.size :: fp := by rw [← hX]; rfl
  have eFs : Y.fs = frs X.stack := by rw [← hX]; rfl
  have hT' : PTs Y ifs tt := by rw [← hX]; exact hT _ _ _ _
  have hE' : PE Y elt te := by rw [← hX]; exact hE _ _ _ _
  have hG' : PG Y tg g := by rw [← hX]; exact hG _ _ _ _
  have eH0 : Y.H₀ = H2 := by rw [← hX]; rfl
  have eS0 : Y.s₀ = { s2 with heap := HH } := by rw [← hX]; rfl
  have eL : Y.env.locals = HH.objs.size := by rw [eEnv]; rfl
  have ecl : Y.env.cells = clOf X.env scope.names [] := by rw [eEnv]; rfl
  have look : ∀ y c, (clOf X.env scope.names []).lookup y = some c → X.env.cells.lookup y = some c := fun y c e => by
    rw [clOf_lookup] at e
    split at e
    · rename_i ha
      obtain ⟨p, hp, hq⟩ := List.any_eq_true.mp ha
      simp only [Bool.and_eq_true, beq_iff_eq] at hq
      obtain ⟨q1, q2⟩ := hq
      subst q1
      obtain ⟨c', hc'⟩ := I2.ok.has p.1 (.inl (ok.free p.1 p.2 hp q2))
      rw [hc'] at e ⊢
      exact e
    · cases e
  have fpOk : ∀ {pins' : List (Addr × Obj)} {H' : Hp}, (∀ b ∈ fp, H' b = none) → (∀ p ∈ pins', p.1 ∉ fp) → ∀ b ∈ fp, FpOk Y pins' H' b := fun {pins' H'} hn hp b hb => by
    have hlt := flt b hb
    refine ⟨hn b hb, by rw [eL]; exact Nat.ne_of_lt (Nat.lt_of_lt_of_le hlt (show s2.heap.objs.size ≤ HH.objs.size by omega)), ?_, .inl (by rw [eEx]; exact List.mem_cons_of_mem _ hb), fun y c e => (f2 b hb).2.2.2.2.1 y c (look y c (by rw [← ecl]; exact e)), fun p hpp z => ?_⟩
    · rw [eFs]
      intro q
      rcases List.mem_cons.mp (I2.stkSub b q) with e | e
      · exact (f2 b hb).2.1 e
      · exact (f2 b hb).2.2.1 e
    · rw [ePn, List.nil_append] at hpp
      exact hp p hpp (by rw [z]; exact hb)
  have Dnf : s2.heap.objs.size ∉ fp := fun z => absurd (flt _ z) (Nat.lt_irrefl _)
  have loop : codeAny (model X.prog X.w) X.A (.compLoop (.ListComp elt [⟨tg, iter, ifs, 0⟩] scope pos) 0 (.ref it) (.ref s2.heap.objs.size) Y.env) (RR (.ref s2.heap.objs.size) HH.objs.size) { s2 with heap := h1, toks := s2.toks + ([] : List (Str × Value)).length } := by
    refine compLoop_own (fun n s' => ∃ i ys its k os H', Inv Y [(s2.heap.objs.size, { cls := .type "list", data := .seq its.toArray k })] (os ++ capt.map fun j => (σ[j]?).join) H' s' ∧ os.length = xs.length ∧ Vals ys its ∧ ys.length ≤ sizeLine ∧ tn i s'.heap ∧ (∀ b ∈ fp, H' b = none) ∧ W i n ys H') ?_ m0
      ⟨0, [], [], 0, _, H2, I4, List.length_replicate, .nil, Nat.zero_le _, st4, fun b hb => (f2 b hb).1, w0⟩
    rintro n s3 ⟨i, ys, its, k, os, H3, I3, hos, rv, hys, st3, fr3, w3⟩
    have noErr : ∀ {e : Value} {s : Shared}, X.xe e s → notedBy (model X.prog X.w) X.A Y.env (fun e s' => RR (.ref s2.heap.objs.size) HH.objs.size (.error e) s') e s := fun {e s} z => (hx0 e s z).elim
    have pinD := I3.pin (s2.heap.objs.size, { cls := .type "list", data := .seq its.toArray k }) (by simp)
    have fp3 := fpOk (pins' := [(s2.heap.objs.size, { cls := .type "list", data := .seq its.toArray k })]) fr3 (by simpa using Dnf)
    rcases turn i n ys H3 w3 with ⟨stop, fin⟩ | ⟨go, hlt, N, hN, step⟩
    · -- it stops
      have d := T.done Y eProg eW eK eCalm i _ s3 _ H3 X.xe I3 fp3 st3 stop
      rw [eA] at d
      refine wpAny_mono d (fun r s4 ⟨hr, I4'⟩ => ?_) fun e s z => noErr z
      subst hr
      show RR (.ref s2.heap.objs.size) HH.objs.size (.ok .next) s4
      have pinD4 := I4'.pin (s2.heap.objs.size, { cls := .type "list", data := .seq its.toArray k }) (by simp)
      obtain ⟨mC, nsC, _⟩ := I4'.loc
      rw [eL] at nsC
      obtain ⟨oC, esC, epC, hoC, hdC, _⟩ := id nsC
      have base4 := I4'.base
      rw [eFs, eEx, eH0, eS0] at base4
      have hCn : H3 HH.objs.size = none := by rw [← eL]; exact I4'.free
      refine hRR s2.heap.objs.size HH.objs.size s4 ys H3 oC pinD4.2.1 fin ?_ hoC ⟨mC, nsC⟩ (Nat.ne_of_gt (show s2.heap.objs.size < HH.objs.size by omega)) hCn (Nat.ne_of_gt (Nat.lt_of_lt_of_le I2.lt (show s2.heap.objs.size ≤ HH.objs.size by omega))) (I2.stk_lt (by omega)) (by have := I2.sz; omega) (fun y c e z => ?_) (fun p hp z => ?_) (fun v z => by rw [hdC] at z; cases z)
      · have hok4 := I4'.hok
        rw [eProg, eW] at hok4
        have hbl : ∀ b ob, s2.heap.get? b = some ob → b ∉ fp → HH.get? b = some ob ∧ b ∉ s2.heap.objs.size :: fp := fun b ob e hm =>
          ⟨by rw [eH']; exact Heap.get?_push_of_some _ e, fun z => (List.mem_cons.mp z).elim (fun q => absurd (Heap.lt_size e) (by rw [q]; exact Nat.lt_irrefl _)) hm⟩
        refine I2.call' (ch := fp) (by rw [I4'.os, eS0]) ⟨fun b ob e nn hb hx => ?_, fun b ob e nn hb hx => ?_, fun b ob e nn hx => ?_, fun b ob e hx => ?_, fun b xs e => ?_, fun b ob u e => ?_, fun b ps e => ?_⟩ (HOk.track hok4 pinD4.2.1 ⟨hys, its, k, rv, pinD4.1⟩) I4'.bare fun b hb => ⟨(f2 b hb).2.2.2.1, (f2 b hb).2.1, (f2 b hb).2.2.2.2.1, (f2 b hb).2.2.2.2.2⟩
        · obtain ⟨h1', h2'⟩ := hbl b ob e hx
          exact base4.keep b ob h1' nn hb h2'
        · obtain ⟨h1', h2'⟩ := hbl b ob e hx
          exact base4.slot b ob h1' nn hb h2'
        · obtain ⟨h1', h2'⟩ := hbl b ob e hx
          rw [upd_ne (Nat.ne_of_lt (Heap.lt_size e))]
          exact base4.free b ob h1' nn h2'
        · obtain ⟨h1', h2'⟩ := hbl b ob e hx
          exact base4.there b ob h1' h2'
        · have q := base4.tups b xs e
          rw [upd_ne (ne_of_none q pinD4.2.1)]
          exact q
        · have q := base4.frzs b ob u e
          rw [upd_ne (ne_of_none q pinD4.2.1)]
          exact q
        · obtain ⟨more, q⟩ := base4.tbls b ps e
          exact ⟨more, by rw [upd_ne (ne_of_none q pinD4.2.1)]; exact q⟩
      · obtain ⟨v, hv⟩ := I2.cell y c e
        have := hv.lt
        rw [z] at this
        exact absurd this (Nat.not_lt.mpr (show s2.heap.objs.size ≤ HH.objs.size by omega))
      · have := Heap.lt_size (I2.pin p hp).1
        rw [z] at this
        exact absurd this (Nat.not_lt.mpr (show s2.heap.objs.size ≤ HH.objs.size by omega))
    · -- one turn
      have d := T.item Y eProg eW eK eCalm i _ s3 _ H3 X.xe I3 fp3 st3 go
      rw [eA] at d
      refine wpAny_mono d (fun r s4 ⟨u, hr, h4⟩ => ?_) fun e s z => noErr z
      subst hr
      refine wpAny_mono h4 (fun _ s5 ⟨v, H5, I5, r5, y5, st5, fr5⟩ => ?_) fun e s z => noErr z
      have fp5 := fpOk (pins' := [(s2.heap.objs.size, { cls := .type "list", data := .seq its.toArray k })]) fr5 (by simpa using Dnf)
      have I5' := I5.pinned fp5 (T.obj _ _ st5)
      have pg' := hG' _ s5 _ H5 v u _ I5' r5 (hgs v os _ H5 _ hos (step v H5 y5 os hos))
      rw [eProg, eW, eA, eXe] at pg'
      refine wpAny_mono pg' (fun _ s6 ⟨σ6, H6, I6, ⟨os6, hos6, e6⟩, q6⟩ => ?_) fun e s z => noErr z
      subst e6
      have t6 := hT' _ s6 _ H6 _ I6 q6
      rw [eProg, eW, eA, eXe] at t6
      refine wpAny_mono t6 (fun b s7 ⟨H7, I7, q7⟩ => ?_) fun e s z => noErr z
      have ntn : ∀ {σ' : St} {H' : Hp} {s' : Shared}, Inv Y ([(s2.heap.objs.size, { cls := .type "list", data := .seq its.toArray k })] ++ pinsAt fp s5.heap) σ' H' s' → tn (i + 1) s'.heap ∧ ∀ b ∈ fp, H' b = none := fun {σ' H' s'} J' => by
        refine ⟨T.keep _ _ _ st5 fun b hb o e => (J'.pin (b, o) (List.mem_append_right _ (List.mem_append_right _ (mem_pinsAt hb e)))).1, fun b hb => ?_⟩
        obtain ⟨o, e, _⟩ := T.obj _ _ st5 b hb
        exact (J'.pin (b, o) (List.mem_append_right _ (List.mem_append_right _ (mem_pinsAt hb e)))).2.1
      cases b with
      | false =>
        rw [if_neg Bool.false_ne_true] at q7
        obtain ⟨m', hm, w7⟩ := hN _ _ q7
        rw [if_neg Bool.false_ne_true]
        exact ⟨m', hm, i + 1, ys, its, k, os6, H7, I7.unpinned, hos6, rv, hys, (ntn I7).1, (ntn I7).2, w7⟩
      | true =>
        rw [if_pos rfl] at q7
        rw [if_pos rfl]
        have e7 := hE' _ s7 _ H7 _ I7 q7
        rw [eProg, eW, eA, eXe] at e7
        refine wpAny_mono e7 (fun uy s8 ⟨y, H8, I8, r8, n8⟩ => ?_) fun e s z => noErr z
        obtain ⟨m', hm, w8⟩ := hN _ _ n8
        have pin8 := I8.pin (s2.heap.objs.size, { cls := .type "list", data := .seq its.toArray k }) (by simp)
        have hlen : ys.length = its.length := rv.length
        refine wpAny_list_append_plain (hsz := by rw [List.size_toArray]; omega) ⟨k, pin8.1⟩ fun h9 ⟨k9, hl9⟩ hs9 => ?_
        have hk9 : ∀ b o, b ≠ s2.heap.objs.size → s8.heap.get? b = some o → h9.get? b = some o := fun b o hb e => (hs9.2 b hb).trans e
        have I8u : Inv Y (pinsAt fp s5.heap) (os6 ++ capt.map fun j => (σ[j]?).join) H8 s8 := I8.pins_of fun p hp => I8.pin p (List.mem_append_right _ (List.mem_append_right _ hp))
        have I9 : Inv Y (pinsAt fp s5.heap) (os6 ++ capt.map fun j => (σ[j]?).join) H8 { s8 with heap := h9, toks := s8.toks } := I8u.turned (it := s2.heap.objs.size) hk9 pin8.2.1 (by rw [eL]; exact Nat.ne_of_lt (show s2.heap.objs.size < HH.objs.size by omega)) (.inl (by rw [eEx]; exact List.mem_cons_self))
          (fun y c e z => by
            rw [ecl] at e
            obtain ⟨v', hv⟩ := I2.cell y c (look y c e)
            have := hv.lt
            rw [z] at this
            exact absurd this (Nat.lt_irrefl _))
          (fun p hp z => by
            rw [ePn, List.nil_append] at hp
            exact Dnf (by rw [← z]; exact (of_pinsAt hp).1))
        have hl9' : h9.get? s2.heap.objs.size = some { cls := .type "list", data := .seq (its ++ [uy]).toArray k9 } := by
          rw [hl9]; simp
        refine ⟨m', hm, i + 1, ys ++ [y], its ++ [uy], k9, os6, H8, I9.pins_of fun p hp => ?_, hos6, rv.append (.cons r8 .nil), ?_, ?_, (ntn I8).2, w8⟩
        · have hp' : p = (s2.heap.objs.size, { cls := .type "list", data := .seq (its ++ [uy]).toArray k9 }) := by simpa using hp
          subst hp'
          exact ⟨hl9', pin8.2.1, pin8.2.2.1, pin8.2.2.2.1, fun v z => by cases z⟩
        · rw [List.length_append, List.length_singleton]; omega
        · refine T.keep _ _ _ (ntn I8).1 fun b hb o e => hk9 b o (fun z => Dnf (by rw [← z]; exact hb)) e
  rw [eEnv] at loop
  refine codeAny_compStart_list ?_ ?_
  · exact loop
  · exact T.self _ 0 _ _ _ st4 loop

/-- y = [..]: the list is stored ahead of the block's end -/
theorem ps_compG {elt iter tg : Expr} {g : TG} {py : Pos} {ifs : List Expr} {pos spos : Pos} {wi : TI} {tt : TT} {te : TE} {i : Nat} {y : Str} (xs : List Str) (capt : List Nat)
    (hN : X.N.Nodup) (hiy : X.N[i]? = some y) (hy : Loc X.env.scope y)
    (hx0 : ∀ e s, ¬ X.xe e s) (hc : X.calm = true) (hi : PI X tg iter wi) (hG : ∀ C s H ex, PG (cxComp X xs capt scope C s H ex) tg g) (hgs : Shp xs.length g)
    (hT : ∀ C s H ex, PTs (cxComp X xs capt scope C s H ex) ifs tt) (hE : ∀ C s H ex, PE (cxComp X xs capt scope C s H ex) elt te)
    (hk : compOk scope X.env.scope xs (capt.map fun j => X.N.getD j "") = true) (hcap : ∀ j ∈ capt, j < X.N.length)
    (hsw : swapsWith (.ListComp elt [⟨tg, iter, ifs, 0⟩] scope pos) (some (.Name y py)) spos.line X.env = pure true)
    (hs : ∀ y, foldedSetIterable iter X.env y = pure y := by intro _; rfl) (hf : X.fn y = true ∨ X.env.scope.names.lookup y = some .local := by first | exact .inl rfl | exact .inr rfl | assumption) :
    PS X (.Assign [.Name y py] (.ListComp elt [⟨tg, iter, ifs, 0⟩] scope pos) spos) (tAsg (tCompG xs.length g capt wi tt te) (gName i)) := by
  intro pins s σ H D0 I h
  have ok := compOk.mk hk
  rw [exec_Assign_Name_used _ _ _ _ hsw]
  refine wpAny_bind (wpAny_standAt (wpAny_bind ?_))
  show wpAny _ X.A (do let _ ← comprehension (.ListComp elt [⟨tg, iter, ifs, 0⟩] scope pos) scope X.env _ (newList []) false (eval iter X.env) (some (assign (.Name y py) X.env))) _ _ s
  refine wpAny_bind (wpAny_mono (wpAny_comprehension_free (use := some (assign (.Name y py) X.env)) (cl := clOf X.env scope.names []) (Q := fun _ s' => SP X pins D0 .next s') rfl hs (closure_clOf fun n k hm hf => ?_) ok.kind ok.names (thn (hi pins s σ H _ I h) fun xv s1 h1 => thn h1 fun itv s2 h2 => ?_))
    (fun _ s' hq => wpAny_pure (wpAny_pure hq)) fun _ _ e => e)
  · obtain ⟨c, e⟩ := I.ok.has n (.inl (ok.free n k hm (by simpa using hf)))
    rw [e]; rfl
  · obtain ⟨it, fp, tn, J, H2, e, I2, T, st2, f2, hW⟩ := h2
    subst e
    refine comp_block (RR := fun acc C => compPost (model X.prog X.w) X.A X.xe (some (assign (.Name y py) X.env)) (fun _ s' => SP X pins D0 .next s') acc C) hx0 hc ok hcap hG hgs hT hE I2 T st2 f2 (fun ys H => ∀ l, H l = none → gName i (.ref l) σ (upd H l (.lst ys)) D0.nx) hW ?_
    intro D C s' ys H' oc hD fin I' hC ⟨m, hns⟩ hCD hCn hL hst hsz hcl hpn hnc
    show wpAny _ _ (assign (.Name y py) X.env (.ref D)) _ _ s'
    have hCf : C ∉ X.fs := fun z => by
      rcases I'.ok.stk with e | ⟨e, _⟩
      · exact hst (by rw [e]; exact z)
      · refine hst ?_
        rw [e]
        unfold frs
        rw [List.filterMap_cons]
        split
        · exact z
        · exact List.mem_cons_of_mem _ z
    have Ip : Inv X (pins ++ [(C, oc)]) σ (upd H' D (.lst ys)) s' := I'.pins_of fun p hp => (List.mem_append.mp hp).elim (fun z => I'.pin p (List.mem_append_right _ z)) fun z => by
      have z' : p = (C, oc) := by simpa using z
      subst z'
      exact ⟨hC, by rw [upd_ne hCD]; exact hCn, hL, hCf, hnc⟩
    have pg := pg_name (X := X) (i := i) (x := y) (pos := py) hN hiy hy hf
    refine thn (pg _ s' σ _ (.ref D) (.ref D) (fun σ' H'' => D0.nx σ' H'' ∧ H'' = upd H' D (.lst ys)) Ip rfl ⟨fin D hD, rfl⟩) fun _ s'' ⟨σ', H'', I'', q, eH⟩ => ?_
    subst eH
    have pC := I''.pin (C, oc) (by simp)
    obtain ⟨o, es, ep, ho, r⟩ := hns
    rw [hC] at ho
    cases ho
    refine ⟨m, ⟨oc, es, ep, pC.1, r⟩, fun h' hsb => ?_⟩
    have Iu : Inv X pins σ' (upd H' D (.lst ys)) s'' := I''.pins_of fun p hp => I''.pin p (List.mem_append_right _ (List.mem_append_left _ hp))
    exact ⟨σ', _, Iu.turned (t' := s''.toks) (it := C) (fun b o hb e => (hsb.2 b hb).trans e) pC.2.1 hL (.inr hsz) hcl hpn, q⟩
theorem pe_comp {elt iter : Expr} {x : Str} {px : Pos} {ifs : List Expr} {pos : Pos} {wi : TI} {tt : TT} {te : TE} (capt : List Nat)
    (hx0 : ∀ e s, ¬ X.xe e s) (hc : X.calm = true) (hi : PI X (.Name x px) iter wi)
    (hT : ∀ C s H ex, PTs (cxComp X [x] capt scope C s H ex) ifs tt) (hE : ∀ C s H ex, PE (cxComp X [x] capt scope C s H ex) elt te)
    (hk : compOk scope X.env.scope [x] (capt.map fun j => X.N.getD j "") = true) (hcap : ∀ j ∈ capt, j < X.N.length) (hnd : (x :: capt.map fun j => X.N.getD j "").Nodup)
    (hs : ∀ y, foldedSetIterable iter X.env y = pure y := by intro _; rfl) : PE X (.ListComp elt [⟨.Name x px, iter, ifs, 0⟩] scope pos) (tComp capt wi tt te) := by
  intro pins s σ H Q I h
  have ok := compOk.mk hk
  rw [eval_ListComp]
  refine wpAny_comprehension_free (use := none) (cl := clOf X.env scope.names []) rfl hs (closure_clOf fun n k hm hf => ?_) ok.kind ok.names (thn (hi pins s σ H _ I h) fun xv s1 h1 => thn h1 fun itv s2 h2 => ?_)
  · obtain ⟨c, e⟩ := I.ok.has n (.inl (ok.free n k hm (by simpa using hf)))
    rw [e]; rfl
  · obtain ⟨it, fp, tn, J, H2, e, I2, T, st2, f2, hW⟩ := h2
    subst e
    refine comp_block (RR := fun acc C => compPost (model X.prog X.w) X.A X.xe none (EP X pins σ Q) acc C) hx0 hc ok hcap (xs := [x]) (g := gName 0) (fun C s H ex => pg_name hnd rfl (.inl (lookup_relabel_local (ok.x x (by simp)))) (.inr (lookup_relabel_local (ok.x x (by simp))))) shp_name hT hE I2 T st2 f2 (fun ys H => ∀ l, H l = none → Q (.ref l) (upd H l (.lst ys))) hW.g ?_
    intro D C s' ys H' oc hD fin I' hC ⟨m, hns⟩ hCD hCn hL _ hsz hcl hpn _
    refine ⟨m, hns, fun h' hsb => ⟨.ref D, _, I'.turned (t' := s'.toks) (it := C) (fun b o hb e => (hsb.2 b hb).trans e) (by rw [upd_ne hCD]; exact hCn) hL (.inr hsz) hcl hpn, rfl, fin D hD⟩⟩

/-- y = [..]: the list is stored ahead of the block's end -/
theorem ps_comp {elt iter : Expr} {x : Str} {px : Pos} {py : Pos} {ifs : List Expr} {pos spos : Pos} {wi : TI} {tt : TT} {te : TE} {i : Nat} {y : Str} (capt : List Nat)
    (hN : X.N.Nodup) (hiy : X.N[i]? = some y) (hy : Loc X.env.scope y)
    (hx0 : ∀ e s, ¬ X.xe e s) (hc : X.calm = true) (hi : PI X (.Name x px) iter wi)
    (hT : ∀ C s H ex, PTs (cxComp X [x] capt scope C s H ex) ifs tt) (hE : ∀ C s H ex, PE (cxComp X [x] capt scope C s H ex) elt te)
    (hk : compOk scope X.env.scope [x] (capt.map fun j => X.N.getD j "") = true) (hcap : ∀ j ∈ capt, j < X.N.length) (hnd : (x :: capt.map fun j => X.N.getD j "").Nodup)
    (hsw : swapsWith (.ListComp elt [⟨.Name x px, iter, ifs, 0⟩] scope pos) (some (.Name y py)) spos.line X.env = pure true)
    (hs : ∀ y, foldedSetIterable iter X.env y = pure y := by intro _; rfl) (hf : X.fn y = true ∨ X.env.scope.names.lookup y = some .local := by first | exact .inl rfl | exact .inr rfl | assumption) :
    PS X (.Assign [.Name y py] (.ListComp elt [⟨.Name x px, iter, ifs, 0⟩] scope pos) spos) (tAsg (tComp capt wi tt te) (gName i)) := by
  intro pins s σ H D0 I h
  have ok := compOk.mk hk
  rw [exec_Assign_Name_used _ _ _ _ hsw]
  refine wpAny_bind (wpAny_standAt (wpAny_bind ?_))
  show wpAny _ X.A (do let _ ← comprehension (.ListComp elt [⟨.Name x px, iter, ifs, 0⟩] scope pos) scope X.env _ (newList []) false (eval iter X.env) (some (assign (.Name y py) X.env))) _ _ s
  refine wpAny_bind (wpAny_mono (wpAny_comprehension_free (use := some (assign (.Name y py) X.env)) (cl := clOf X.env scope.names []) (Q := fun _ s' => SP X pins D0 .next s') rfl hs (closure_clOf fun n k hm hf => ?_) ok.kind ok.names (thn (hi pins s σ H _ I h) fun xv s1 h1 => thn h1 fun itv s2 h2 => ?_))
    (fun _ s' hq => wpAny_pure (wpAny_pure hq)) fun _ _ e => e)
  · obtain ⟨c, e⟩ := I.ok.has n (.inl (ok.free n k hm (by simpa using hf)))
    rw [e]; rfl
  · obtain ⟨it, fp, tn, J, H2, e, I2, T, st2, f2, hW⟩ := h2
    subst e
    refine comp_block (RR := fun acc C => compPost (model X.prog X.w) X.A X.xe (some (assign (.Name y py) X.env)) (fun _ s' => SP X pins D0 .next s') acc C) hx0 hc ok hcap (xs := [x]) (g := gName 0) (fun C s H ex => pg_name hnd rfl (.inl (lookup_relabel_local (ok.x x (by simp)))) (.inr (lookup_relabel_local (ok.x x (by simp))))) shp_name hT hE I2 T st2 f2 (fun ys H => ∀ l, H l = none → gName i (.ref l) σ (upd H l (.lst ys)) D0.nx) hW.g ?_
    intro D C s' ys H' oc hD fin I' hC ⟨m, hns⟩ hCD hCn hL hst hsz hcl hpn hnc
    show wpAny _ _ (assign (.Name y py) X.env (.ref D)) _ _ s'
    have hCf : C ∉ X.fs := fun z => by
      rcases I'.ok.stk with e | ⟨e, _⟩
      · exact hst (by rw [e]; exact z)
      · refine hst ?_
        rw [e]
        unfold frs
        rw [List.filterMap_cons]
        split
        · exact z
        · exact List.mem_cons_of_mem _ z
    have Ip : Inv X (pins ++ [(C, oc)]) σ (upd H' D (.lst ys)) s' := I'.pins_of fun p hp => (List.mem_append.mp hp).elim (fun z => I'.pin p (List.mem_append_right _ z)) fun z => by
      have z' : p = (C, oc) := by simpa using z
      subst z'
      exact ⟨hC, by rw [upd_ne hCD]; exact hCn, hL, hCf, hnc⟩
    have pg := pg_name (X := X) (i := i) (x := y) (pos := py) hN hiy hy hf
    refine thn (pg _ s' σ _ (.ref D) (.ref D) (fun σ' H'' => D0.nx σ' H'' ∧ H'' = upd H' D (.lst ys)) Ip rfl ⟨fin D hD, rfl⟩) fun _ s'' ⟨σ', H'', I'', q, eH⟩ => ?_
    subst eH
    have pC := I''.pin (C, oc) (by simp)
    obtain ⟨o, es, ep, ho, r⟩ := hns
    rw [hC] at ho
    cases ho
    refine ⟨m, ⟨oc, es, ep, pC.1, r⟩, fun h' hsb => ?_⟩
    have Iu : Inv X pins σ' (upd H' D (.lst ys)) s'' := I''.pins_of fun p hp => I''.pin p (List.mem_append_right _ (List.mem_append_left _ hp))
    exact ⟨σ', _, Iu.turned (t' := s''.toks) (it := C) (fun b o hb e => (hsb.2 b hb).trans e) pC.2.1 hL (.inr hsz) hcl hpn, q⟩
end
end L2

set_option Elab.async false
set_option linter.all false
set_option maxRecDepth 100000
/-! More rules over the layer: texts, isinstance, all, join, is True, // by large numbers. -/
namespace L2
open PySem PySem.Spec PyProof.Rows
section
variable {X : Cx}

/-- // by any positive divisor below 2 ** 1000 -/
def bigB : Int := 1645504557321206042154969182557350504982735865633579863348609024
def CDivL (i j : Int) : Prop := 0 < j ∧ j < bigB
theorem log2_lt_of {n k : Nat} (h : n < 2 ^ k) (hk : 0 < k) : n.log2 < k := by
  by_cases h0 : n = 0
  · subst h0; simpa using hk
  · exact (Nat.log2_lt h0).mpr h
theorem op_fdivL : OpR X (binaryOp .FloorDiv) (rI CDivL fun i j => .int (i / j)) := opI fun i j _ _ _ _ _ hc q => by
  have h1 : (0 : Int) < j := hc.1
  have h2 : j < bigB := hc.2
  refine floordiv_int (by omega) (by rw [Int.fdiv_eq_ediv_of_nonneg i (by omega)]; exact q) (.inl (PyProof.noPylong_of_log2 ?_))
  have h3 : j.natAbs < 2 ^ 210 := by
    have e : (2 ^ 210 : Nat) = 1645504557321206042154969182557350504982735865633579863348609024 := by decide
    unfold bigB at h2
    rw [e]
    omega
  exact Nat.lt_of_lt_of_le (log2_lt_of h3 (by decide)) (by decide)

/-- isinstance(x, T), T a built-in type -/
theorem call_isinst {T : String} : CallR X (.builtin "isinstance") (fun xs H Q => ∃ x t b, xs = [x, .ty T] ∧ TyOf X.K H x t ∧ PySem.W.kitOne X.K t (.type T) = some b ∧ Q (.bl b) H) := by
  intro pins s σ H xs us Q I r h
  obtain ⟨x, t, b, rfl, ty, e, q⟩ := h
  obtain ⟨u, w', rfl, rx, rt⟩ := vals2 r
  cases rt
  exact isinst_ok I rx ty e fun tk => ⟨.bl b, H, I.tok _, rfl, q⟩

/-- all(xs) of truths -/
theorem bools_of {bs : List Bool} : ∀ {us : List Value}, Vals (bs.map V.bl) us → us = bs.map Value.bool := by
  induction bs with
  | nil => intro us r; cases r; rfl
  | cons b bs ih =>
    intro us r
    rw [List.map_cons] at r
    cases r with
    | cons r1 r2 =>
      cases r1
      rw [ih r2, List.map_cons]
theorem call_all : CallR X (.builtin "all") (fun xs H Q => X.calm = true ∧ ∃ (p : Addr) (bs : List Bool), xs = [.ref p] ∧ SqL X.K H p (bs.map V.bl) ∧ Q (.bl (bs.all id)) H) := by
  intro pins s σ H xs us Q I r h
  obtain ⟨hc, p, bs, rfl, hp, q⟩ := h
  obtain ⟨u, rfl, ru⟩ := vals1 r
  cases ru
  obtain ⟨its, rv, pl, hz⟩ := I.list hp
  have e := bools_of rv
  subst e
  have hl := pl.isList
  have hlt : p < s.heap.objs.size := by obtain ⟨_, e, _⟩ := hl; exact Heap.lt_size e
  refine call_all_walk (wpAny_pyIter_list hl ?_)
  refine ⟨s.heap.objs.size, [s.heap.objs.size, p], [s.heap.objs.size], (bs.map Value.bool).toArray.size, _, _, fun i => (bs[i]?).getD true, rfl, Walks.list (A := X.A.in1) (I.ok.hd hc) _ p (Nat.ne_of_lt hlt) (bs.map Value.bool).toArray,
    ⟨⟨_, Heap.get?_push_size _ rfl, rfl, rfl⟩, hl.push _⟩, fun i v s' Q' E' hP hQ => ?_, fun h' tk hk => ?_⟩
  · have hP' : (bs.map Value.bool)[i]? = some v := by simpa using hP
    rw [List.getElem?_map] at hP'
    cases e : bs[i]? with
    | none => rw [e] at hP'; cases hP'
    | some b =>
      rw [e] at hP'
      have ev : Value.bool b = v := Option.some.inj hP'
      subst ev
      simp only [e, Option.getD_some] at hQ
      exact wpAny_truthy_bool hQ
  · have e : ((List.range (bs.map Value.bool).toArray.size).all fun i => (bs[i]?).getD true) = bs.all id := by
      rw [List.size_toArray, List.length_map]
      rw [Bool.eq_iff_iff, List.all_eq_true, List.all_eq_true]
      constructor
      · intro h b hb
        obtain ⟨i, hi, rfl⟩ := List.mem_iff_getElem.mp hb
        have := h i (List.mem_range.mpr hi)
        rw [List.getElem?_eq_getElem hi] at this
        exact this
      · intro h i hi
        have hi' := List.mem_range.mp hi
        rw [List.getElem?_eq_getElem hi']
        exact h _ (List.getElem_mem hi')
    rw [e]
    exact ⟨.bl _, H, I.kept (t' := tk) fun b o eb => hk b o (fun z => by rw [List.mem_singleton.mp z] at eb; exact Nat.lt_irrefl _ (Heap.lt_size eb)) (Heap.get?_push_of_some _ eb), rfl, q⟩

end

/-! ### a text's signs, one by one -/
/-! ### comprehensions by an invariant over the turn -/
section
variable {S : V → St} {tt : TT} {te : TE} {H : Hp} {Fin : List V → Hp → Prop}
theorem comp_range {lo : Int} {n : Nat} (Pv : Nat → List V → Hp → Prop) (h0 : Pv 0 [] H) (hz : ∀ i ys H, i < n → Pv i ys H → ys.length < sizeLine)
    (hs : ∀ i ys H, i < n → Pv i ys H → tt (S (.int (lo + i))) H fun b H2 => if b = true then te (S (.int (lo + i))) H2 fun y H3 => Pv (i + 1) (ys ++ [y]) H3 else Pv (i + 1) ys H2)
    (hd : ∀ ys H, Pv n ys H → Fin ys H) : CompW (Itr lo n) S tt te H Fin := by
  refine ⟨fun i m ys H => m = n - i ∧ i ≤ n ∧ Pv i ys H, ⟨n, by simp, Nat.zero_le _, h0⟩, ?_⟩
  rintro i m ys H ⟨rfl, hi, p⟩
  by_cases hlt : i < n
  · refine .inr ⟨hlt, hz i ys H hlt p, Pv (i + 1), fun ys' H' p' => ⟨n - (i + 1), by omega, rfl, hlt, p'⟩, fun x H' y => ?_⟩
    obtain ⟨e, y⟩ := y
    subst e y
    exact hs i ys _ hlt p
  · have e : i = n := by omega
    subst e
    exact .inl ⟨Nat.le_refl _, hd ys H p⟩
theorem comp_list {K : PySem.W.Frag} {a : Addr} {xs : List V} (Pv : Nat → List V → Hp → Prop) (h0 : Pv 0 [] H) (hl : ∀ i ys H, i ≤ xs.length → Pv i ys H → SqL K H a xs) (hz : ∀ i ys H, i < xs.length → Pv i ys H → ys.length < sizeLine)
    (hs : ∀ i x ys H, xs[i]? = some x → Pv i ys H → tt (S x) H fun b H2 => if b = true then te (S x) H2 fun y H3 => Pv (i + 1) (ys ++ [y]) H3 else Pv (i + 1) ys H2)
    (hd : ∀ ys H, Pv xs.length ys H → Fin ys H) : CompW (Itl K a) S tt te H Fin := by
  refine ⟨fun i m ys H => m = xs.length - i ∧ i ≤ xs.length ∧ Pv i ys H, ⟨xs.length, by simp, Nat.zero_le _, h0⟩, ?_⟩
  rintro i m ys H ⟨rfl, hi, p⟩
  have q := hl i ys H hi p
  by_cases hlt : i < xs.length
  · refine .inr ⟨⟨xs, xs[i], q, by simp [hlt]⟩, hz i ys H hlt p, Pv (i + 1), fun ys' H' p' => ⟨xs.length - (i + 1), by omega, rfl, hlt, p'⟩, fun x H' y => ?_⟩
    obtain ⟨e, y⟩ := y
    subst e
    exact hs i x ys _ (y xs q) p
  · have e : i = xs.length := by omega
    subst e
    exact .inl ⟨⟨xs, q, Nat.le_refl _⟩, hd ys H p⟩
theorem comp_tup {K : PySem.W.Frag} {a : Addr} {xs : List V} (Pv : Nat → List V → Hp → Prop) (h0 : Pv 0 [] H) (hl : ∀ i ys H, i ≤ xs.length → Pv i ys H → SqT K H a xs) (hz : ∀ i ys H, i < xs.length → Pv i ys H → ys.length < sizeLine)
    (hs : ∀ i x ys H, xs[i]? = some x → Pv i ys H → tt (S x) H fun b H2 => if b = true then te (S x) H2 fun y H3 => Pv (i + 1) (ys ++ [y]) H3 else Pv (i + 1) ys H2)
    (hd : ∀ ys H, Pv xs.length ys H → Fin ys H) : CompW (Itt K a) S tt te H Fin := by
  refine ⟨fun i m ys H => m = xs.length - i ∧ i ≤ xs.length ∧ Pv i ys H, ⟨xs.length, by simp, Nat.zero_le _, h0⟩, ?_⟩
  rintro i m ys H ⟨rfl, hi, p⟩
  have q := hl i ys H hi p
  by_cases hlt : i < xs.length
  · refine .inr ⟨⟨xs, xs[i], q, by simp [hlt]⟩, hz i ys H hlt p, Pv (i + 1), fun ys' H' p' => ⟨xs.length - (i + 1), by omega, rfl, hlt, p'⟩, fun x H' y => ?_⟩
    obtain ⟨e, y⟩ := y
    subst e
    exact hs i x ys _ (y xs q) p
  · have e : i = xs.length := by omega
    subst e
    exact .inl ⟨⟨xs, q, Nat.le_refl _⟩, hd ys H p⟩
end

/-! ### a slice of a text -/
/-! ### a dict of the top, its keys texts -/
section
end

/-! ### a display of constants, at once -/
/-! ### a long display of constants: kept folded, so that no look at a goal runs it -/
end L2

set_option Elab.async false
set_option linter.all false
set_option maxRecDepth 100000
/-! Equality of things built of lists and tuples, by what they read as. -/
namespace L2
open PySem PySem.Spec PyProof.Rows PySem.SeqAt

mutual
/-- a value reads as a thing -/
def RdD (K : PySem.W.Frag) (H : Hp) : PyData → V → Prop
  | .none, v => v = .non
  | .bool b, v => v = .bl b
  | .int i, v => v = .int i
  | .str x, v => v = .str x
  | .list ds, v => ∃ p xs, v = .ref p ∧ SqL K H p xs ∧ RdDs K H ds xs
  | .tuple ds, v => ∃ p xs, v = .ref p ∧ SqT K H p xs ∧ RdDs K H ds xs
  | .dict _, _ => False
def RdDs (K : PySem.W.Frag) (H : Hp) : List PyData → List V → Prop
  | [], xs => xs = []
  | d :: ds, xs => ∃ x r, xs = x :: r ∧ RdD K H d x ∧ RdDs K H ds r
end
section
variable {K : PySem.W.Frag} {H H' : Hp}
theorem RdDs.ints (ns : List Int) : RdDs K H (ns.map PyData.int) (ns.map V.int) := by
  induction ns with
  | nil => unfold RdDs; rfl
  | cons n r ih =>
    show RdDs K H (PyData.int n :: r.map PyData.int) (V.int n :: r.map V.int)
    unfold RdDs
    exact ⟨_, _, rfl, by unfold RdD; rfl, ih⟩
theorem RdD.lst {ds : List PyData} {p : Addr} {xs : List V} (h : SqL K H p xs) (r : RdDs K H ds xs) : RdD K H (.list ds) (.ref p) := by
  unfold RdD
  exact ⟨p, xs, rfl, h, r⟩
end

/-- a thing that can be compared -/
def Cmp (n : Nat) (d : PyData) : Prop := d.canLay0 = true ∧ d.depth ≤ n
theorem Cmp.int {n : Nat} (i : Int) : Cmp n (.int i) := ⟨by simp [PyData.canLay0], by simp [PyData.depth]⟩
theorem cmpAll {n : Nat} : ∀ {ds : List PyData}, (∀ d ∈ ds, Cmp n d) → PyData.canLayAll0 ds = true ∧ PyData.depthAll ds ≤ n
  | [], _ => ⟨by simp [PyData.canLayAll0], by simp [PyData.depthAll]⟩
  | d :: ds, h => by
    obtain ⟨h1, h2⟩ := h d List.mem_cons_self
    obtain ⟨h3, h4⟩ := cmpAll (ds := ds) fun e he => h e (List.mem_cons_of_mem _ he)
    refine ⟨by simp [PyData.canLayAll0, h1, h3], ?_⟩
    simp only [PyData.depthAll]
    omega
theorem Cmp.list {n : Nat} {ds : List PyData} (h : ∀ d ∈ ds, Cmp n d) : Cmp (n + 1) (.list ds) := by
  obtain ⟨h1, h2⟩ := cmpAll h
  exact ⟨by simp [PyData.canLay0, h1], by simp only [PyData.depth]; omega⟩
theorem Cmp.mono {n m : Nat} {d : PyData} (h : Cmp n d) (l : n ≤ m) : Cmp m d := ⟨h.1, Nat.le_trans h.2 l⟩
theorem Cmp.ints {n : Nat} (ns : List Int) : ∀ d ∈ ns.map PyData.int, Cmp n d := fun d hd => by
  obtain ⟨i, _, rfl⟩ := List.mem_map.mp hd
  exact .int i
mutual
theorem eqv_self : ∀ {d : PyData}, d.canLay0 = true → PyData.eqv d d = true
  | .none, _ => by simp [PyData.eqv]
  | .bool _, _ => by simp [PyData.eqv]
  | .int _, _ => by simp [PyData.eqv]
  | .str _, _ => by simp [PyData.eqv]
  | .list ds, h => by
    rw [PyData.eqv]
    exact eqvAll_self (by simpa [PyData.canLay0] using h)
  | .tuple ds, h => by
    rw [PyData.eqv]
    exact eqvAll_self (by simpa [PyData.canLay0] using h)
  | .dict _, h => by simp [PyData.canLay0] at h
theorem eqvAll_self : ∀ {ds : List PyData}, PyData.canLayAll0 ds = true → PyData.eqvAll ds ds = true
  | [], _ => by simp [PyData.eqvAll]
  | d :: ds, h => by
    have h' : (PyData.canLay0 d && PyData.canLayAll0 ds) = true := by simpa [PyData.canLayAll0] using h
    obtain ⟨h1, h2⟩ := Bool.and_eq_true_iff.mp h'
    rw [PyData.eqvAll, eqv_self h1, eqvAll_self h2]
    rfl
end
section
variable {X : Cx} {pins : List (Addr × Obj)} {σ : St} {H : Hp} {s : Shared}
mutual
theorem Inv.reads (I : Inv X pins σ H s) : ∀ {d : PyData} {x : V} {v : Value}, RdD X.K H d x → RelV x v → ∃ as, Reads s.heap v d as
  | .none, _, _, h, r => by unfold RdD at h; subst h; cases r; exact ⟨_, .none⟩
  | .bool b, _, _, h, r => by unfold RdD at h; subst h; cases r; exact ⟨_, .bool b⟩
  | .int i, _, _, h, r => by unfold RdD at h; subst h; obtain ⟨t, rfl⟩ := r; exact ⟨_, .int i t⟩
  | .str i, _, _, h, r => by unfold RdD at h; subst h; obtain ⟨t, rfl⟩ := r; exact ⟨_, .str i t⟩
  | .list ds, _, _, h, r => by
    unfold RdD at h
    obtain ⟨p, xs, rfl, h2, h3⟩ := h
    cases r
    obtain ⟨its, rv, ⟨o, n, e1, e2, e3, e4⟩, _⟩ := I.list h2
    obtain ⟨as, ra⟩ := Inv.readsAll I h3 rv
    exact ⟨_, .list e1 e2 e4 (by simpa using ra)⟩
  | .tuple ds, _, _, h, r => by
    unfold RdD at h
    obtain ⟨p, xs, rfl, h2, h3⟩ := h
    cases r
    obtain ⟨its, rv, ⟨o, e1, e2, n, e4⟩, _⟩ := I.tuple h2
    obtain ⟨as, ra⟩ := Inv.readsAll I h3 rv
    exact ⟨_, .tuple e1 e2 e4 (by simpa using ra)⟩
  | .dict _, _, _, h, _ => by unfold RdD at h; exact h.elim
theorem Inv.readsAll (I : Inv X pins σ H s) : ∀ {ds : List PyData} {xs : List V} {vs : List Value}, RdDs X.K H ds xs → Vals xs vs → ∃ as, ReadsAll s.heap vs ds as
  | [], _, _, h, r => by unfold RdDs at h; subst h; cases r; exact ⟨_, .nil⟩
  | d :: ds, _, _, h, r => by
    unfold RdDs at h
    obtain ⟨x, q, rfl, h2, h3⟩ := h
    cases r with
    | cons r1 r2 =>
      obtain ⟨as, ra⟩ := Inv.reads I h2 r1
      obtain ⟨bs, rb⟩ := Inv.readsAll I h3 r2
      exact ⟨_, .cons ra rb⟩
end
def rEqD (K : PySem.W.Frag) (no : Bool) : R2 := fun x y H Q => ∃ dx dy, RdD K H dx x ∧ RdD K H dy y ∧ Cmp 64 dx ∧ Cmp 64 dy ∧ Q (.bl (no ^^ PyData.eqv dx dy)) H
theorem Cmp.shaped {d : PyData} (h : Cmp 64 d) : shaped d = true := by
  unfold SeqAt.shaped
  rw [h.1, decide_eq_true h.2]
  rfl
theorem op_neD (hu : X.A.units + 64 < cLine) : OpR X (compareOp .NotEq) (rEqD X.K true) := by
  intro pins s σ H x y v u Q I rx ry h
  obtain ⟨dx, dy, hx, hy, cx, cy, q⟩ := h
  obtain ⟨as, ra⟩ := I.reads hx rx
  obtain ⟨bs, rb⟩ := I.reads hy ry
  rw [Bool.true_xor] at q
  exact compareNe_shaped ra rb cx.shaped cy.shaped hu ⟨.bl _, H, I, rfl, q⟩
end
/-- the same data on both sides -/
theorem rEqD.eq {K : PySem.W.Frag} {x y : V} {H : Hp} {Q : VK} {no : Bool} (d : PyData) (hx : RdD K H d x) (hy : RdD K H d y) (c : Cmp 64 d) (q : Q (.bl (!no)) H) : rEqD K no x y H Q :=
  ⟨d, d, hx, hy, c, c, by rw [eqv_self c.1, Bool.xor_true]; exact q⟩
end L2

set_option Elab.async false
set_option linter.all false
set_option maxRecDepth 100000
/-! The rules that speak of the module's objects, for a context within another: these are the same there. -/
namespace L2
open PySem PySem.Spec PyProof.Rows
section
variable {X : Cx} {K : PySem.W.Frag} (h : X.K = K)
include h
theorem ix_tupK : IxR X (rIxT K) := by subst h; exact ix_tup
theorem call_lenK : CallR X (.builtin "len") (fun xs H Q => ∃ x n, xs = [x] ∧ LenV K x H n ∧ Q (.int n) H) := by subst h; exact call_len
theorem call_isinstK {T : String} : CallR X (.builtin "isinstance") (fun xs H Q => ∃ x t b, xs = [x, .ty T] ∧ TyOf K H x t ∧ PySem.W.kitOne K t (.type T) = some b ∧ Q (.bl b) H) := by subst h; exact call_isinst
end
end L2

set_option Elab.async false
set_option linter.all false
set_option maxRecDepth 100000
/-! Works as the laws build them, lists of tuples of two numbers, rows of drawn numbers. -/
namespace L2
open PySem PySem.Spec
theorem same_new {H : Hp} {p : Addr} (h : H p = none) (o : HO) : Same H (upd H p o) := fun b u q => by rw [upd_ne (ne_of_none q h)]; exact q
/-- what came since is changed -/
theorem sameUpd {H H' : Hp} {p : Addr} (s : Same H H') (n : H p = none) (o : HO) : Same H (upd H' p o) := fun b u q => by rw [upd_ne (ne_of_none q n)]; exact s b u q
theorem small {n : Nat} (h : n ≤ 100000) : n ≤ sizeLine := Nat.le_trans h (by decide)
theorem smallL {n : Nat} (h : n ≤ 100000) : n < sizeLine := Nat.lt_of_le_of_lt h (by decide)
/-- rows of drawn numbers -/
def Drawn (rs : List Int) : Prop := ∀ r ∈ rs, 0 ≤ r ∧ r < 1000000
/-- a work, as the law builds one -/
structure Wk where
  ins : Nat
  boxes : List (Int × Int)
  gates : List (Int × Int)
  outs : List Int
/-- a list of tuples of two numbers -/
def PrsR (H : Hp) (b : Addr) (rs : List Addr) (ps : List (Int × Int)) : Prop := H b = some (.lst (rs.map V.ref)) ∧ Paired (fun r (p : Int × Int) => H r = some (.tup [.int p.1, .int p.2])) rs ps
theorem pairedMono {α β : Type} {R S : α → β → Prop} (h : ∀ a b, R a b → S a b) : ∀ {xs : List α} {ys : List β}, Paired R xs ys → Paired S xs ys
  | _, _, .nil => .nil
  | _, _, .cons a b => .cons (h _ _ a) (pairedMono h b)
theorem pairedSnoc {α β : Type} {R : α → β → Prop} {x : α} {y : β} (h : R x y) : ∀ {xs : List α} {ys : List β}, Paired R xs ys → Paired R (xs ++ [x]) (ys ++ [y])
  | _, _, .nil => .cons h .nil
  | _, _, .cons a b => .cons a (pairedSnoc h b)
theorem pairedApp {α β : Type} {R : α → β → Prop} {us : List α} {vs : List β} (h : Paired R us vs) : ∀ {xs : List α} {ys : List β}, Paired R xs ys → Paired R (xs ++ us) (ys ++ vs)
  | _, _, .nil => h
  | _, _, .cons a b => .cons a (pairedApp h b)
theorem pairsNew {H : Hp} {t : Addr} {bs : List Addr} {qs : List (Int × Int)} (x y : Int) (hB : Paired (fun r (p : Int × Int) => H r = some (.tup [.int p.1, .int p.2])) bs qs) (ht : H t = none) :
    Paired (fun r (p : Int × Int) => upd H t (.tup [.int x, .int y]) r = some (.tup [.int p.1, .int p.2])) (bs ++ [t]) (qs ++ [(x, y)]) :=
  pairedSnoc (R := fun r (p : Int × Int) => upd H t (.tup [.int x, .int y]) r = some (.tup [.int p.1, .int p.2])) upd_same (pairedMono (fun r p q => by rw [upd_ne (ne_of_none q ht)]; exact q) hB)
theorem PrsR.same {H H' : Hp} {b : Addr} {rs : List Addr} {ps : List (Int × Int)} (s : Same H H') (h : PrsR H b rs ps) : PrsR H' b rs ps := ⟨s _ _ h.1, pairedMono (fun r p q => s _ _ q) h.2⟩
theorem PrsR.length {H : Hp} {b : Addr} {rs : List Addr} {ps : List (Int × Int)} (h : PrsR H b rs ps) : rs.length = ps.length := Paired.length h.2
theorem PrsR.get {H : Hp} {b : Addr} {rs : List Addr} {ps : List (Int × Int)} (h : PrsR H b rs ps) {i : Nat} (hi : i < ps.length) : ∃ r, (rs.map V.ref)[i]? = some (.ref r) ∧ H r = some (.tup [.int ps[i].1, .int ps[i].2]) := by
  obtain ⟨hb, h⟩ := h
  clear hb
  induction h generalizing i with
  | nil => exact absurd hi (Nat.not_lt_zero _)
  | cons a r ih =>
    cases i with
    | zero => exact ⟨_, rfl, a⟩
    | succ k =>
      obtain ⟨q, h1, h2⟩ := ih (i := k) (by simpa using hi)
      exact ⟨q, by simpa using h1, by simpa using h2⟩
theorem PrsR.push {H : Hp} {b t : Addr} {rs : List Addr} {ps : List (Int × Int)} (h : PrsR H b rs ps) (ht : H t = none) (x y : Int) :
    PrsR (upd (upd H t (.tup [.int x, .int y])) b (.lst (rs.map V.ref ++ [.ref t]))) b (rs ++ [t]) (ps ++ [(x, y)]) := by
  obtain ⟨hb, hp⟩ := h
  have htb : t ≠ b := fun e => by rw [e, hb] at ht; cases ht
  refine ⟨by rw [upd_same, List.map_append]; rfl, pairedSnoc ?_ (pairedMono (fun r p q => ?_) hp)⟩
  · rw [upd_ne htb, upd_same]
  · rw [upd_ne (fun e => by rw [e, hb] at q; cases q), upd_ne (ne_of_none q ht)]
    exact q
def Prs (H : Hp) (b : Addr) (ps : List (Int × Int)) : Prop := ∃ rs, PrsR H b rs ps
theorem Prs.same {H H' : Hp} {b : Addr} {ps : List (Int × Int)} (s : Same H H') (h : Prs H b ps) : Prs H' b ps := let ⟨rs, q⟩ := h; ⟨rs, q.same s⟩
structure IsWkA (H : Hp) (w b g o : Addr) (W : Wk) : Prop where
  w : H w = some (.tup [.int W.ins, .ref b, .ref g, .ref o])
  b : Prs H b W.boxes
  g : Prs H g W.gates
  o : H o = some (.lst (W.outs.map V.int))
theorem IsWkA.same {H H' : Hp} {w b g o : Addr} {W : Wk} (s : Same H H') (h : IsWkA H w b g o W) : IsWkA H' w b g o W := ⟨s _ _ h.w, h.b.same s, h.g.same s, s _ _ h.o⟩
theorem PrsR.mk {H : Hp} {a : Addr} {rs : List Addr} {ps : List (Int × Int)} (h : Paired (fun r (p : Int × Int) => H r = some (.tup [.int p.1, .int p.2])) rs ps) (n : H a = none) : PrsR (upd H a (.lst (rs.map V.ref))) a rs ps :=
  ⟨upd_same, pairedMono (fun r x q => (same_new n _) _ _ q) h⟩
theorem cut_from {xs : List V} {n : Nat} (h : n ≤ xs.length) : cutV xs (some (n : Int)) none = xs.drop n := by
  unfold cutV
  rw [HT.sIx_nat, HT.sIx_none, Nat.min_eq_left h, List.take_of_length_le (by rw [List.length_drop]; omega)]
theorem ixN_nat {n k : Nat} (h : k < n) : ixN n (k : Int) = some k := by
  unfold ixN
  rw [if_pos (by omega), if_pos (by omega), Int.toNat_natCast]
theorem ite_f {c : Bool} {A B : Prop} (h : c = false) (q : B) : if c = true then A else B := by rw [h]; exact q
theorem ite_t {c : Bool} {A B : Prop} (h : c = true) (q : A) : if c = true then A else B := by rw [h]; exact q
end L2

set_option Elab.async false
set_option linter.all false
set_option maxRecDepth 100000
/-! Comprehensions that tell a value for each thing, and the bits of a work's knots and ends. -/
namespace L2
open PySem PySem.Spec
section
variable {K : PySem.W.Frag} {a : Addr} {S : V → St} {te : TE} {H : Hp} {Fin : List V → Hp → Prop}
theorem comp_list_map {xs : List V} (f : V → V) (hS : SqL K H a xs) (hz : xs.length ≤ 100000) (hs : ∀ x ∈ xs, ∀ N : V → Hp → Prop, N (f x) H → te (S x) H N) (hd : Fin (xs.map f) H) : CompW (Itl K a) S tYes te H Fin := by
  refine comp_list (xs := xs) (fun i ys H' => ys = (xs.take i).map f ∧ H = H') ⟨rfl, rfl⟩ ?_ ?_ ?_ ?_
  · rintro i ys H' _ ⟨_, rfl⟩
    exact hS
  · rintro i ys H' hi ⟨rfl, _⟩
    rw [List.length_map, List.length_take]
    exact smallL (by omega)
  · rintro i x ys H' hx ⟨rfl, rfl⟩
    obtain ⟨hi, he⟩ := List.getElem?_eq_some_iff.mp hx
    unfold tYes
    dsimp only
    rw [if_pos rfl]
    refine hs x (he ▸ List.getElem_mem hi) _ ⟨?_, rfl⟩
    rw [List.take_succ_eq_append_getElem hi, List.map_append, he]
    rfl
  · rintro ys H' ⟨rfl, rfl⟩
    rw [List.take_length]
    exact hd
theorem comp_range_map {lo : Int} {n : Nat} (f : Nat → V) (hz : n ≤ 100000) (hs : ∀ i, i < n → ∀ N : V → Hp → Prop, N (f i) H → te (S (.int (lo + i))) H N) (hd : Fin ((List.range n).map f) H) : CompW (Itr lo n) S tYes te H Fin := by
  refine comp_range (fun i ys H' => ys = (List.range i).map f ∧ H = H') ⟨rfl, rfl⟩ ?_ ?_ ?_
  · rintro i ys H' hi ⟨rfl, _⟩
    rw [List.length_map, List.length_range]
    exact smallL (by omega)
  · rintro i ys H' hi ⟨rfl, rfl⟩
    unfold tYes
    dsimp only
    rw [if_pos rfl]
    refine hs i hi _ ⟨?_, rfl⟩
    rw [List.range_succ, List.map_append]
    rfl
  · rintro ys H' ⟨rfl, rfl⟩
    exact hd
theorem comp_prs_map {rs : List Addr} {ps : List (Int × Int)} (f : Int × Int → V) (hP : PrsR H a rs ps) (hz : ps.length ≤ 100000)
    (hs : ∀ p ∈ ps, ∀ r, H r = some (.tup [.int p.1, .int p.2]) → ∀ N : V → Hp → Prop, N (f p) H → te (S (.ref r)) H N) (hd : Fin (ps.map f) H) : CompW (Itl K a) S tYes te H Fin := by
  have hl : (rs.map V.ref).length = ps.length := by rw [List.length_map, hP.length]
  refine comp_list (xs := rs.map V.ref) (fun i ys H' => ys = (ps.take i).map f ∧ H = H') ⟨rfl, rfl⟩ ?_ ?_ ?_ ?_
  · rintro i ys H' _ ⟨_, rfl⟩
    exact SqL.of hP.1
  · rintro i ys H' hi ⟨rfl, _⟩
    rw [List.length_map, List.length_take]
    exact smallL (by omega)
  · rintro i x ys H' hx ⟨rfl, rfl⟩
    obtain ⟨hi, _⟩ := List.getElem?_eq_some_iff.mp hx
    rw [hl] at hi
    obtain ⟨r, h1, h2⟩ := hP.get hi
    rw [h1] at hx
    cases hx
    unfold tYes
    dsimp only
    rw [if_pos rfl]
    refine hs _ (List.getElem_mem hi) r h2 _ ⟨?_, rfl⟩
    rw [List.take_succ_eq_append_getElem hi, List.map_append]
    rfl
  · rintro ys H' ⟨rfl, rfl⟩
    rw [hl, List.take_length]
    exact hd
/-- the target two names -/
theorem comp_pairs {c : St} {tt : TT} {rs : List Addr} {ps : List (Int × Int)} (Pv : Nat → List V → Hp → Prop) (h0 : Pv 0 [] H) (hl : ∀ i ys H', i ≤ ps.length → Pv i ys H' → PrsR H' a rs ps) (hz : ∀ i ys H', i < ps.length → Pv i ys H' → ys.length < sizeLine)
    (hs : ∀ i ys H' (hi : i < ps.length), Pv i ys H' → tt (some (.int ps[i].1) :: some (.int ps[i].2) :: c) H' fun b H2 => if b = true then te (some (.int ps[i].1) :: some (.int ps[i].2) :: c) H2 fun y H3 => Pv (i + 1) (ys ++ [y]) H3 else Pv (i + 1) ys H2)
    (hd : ∀ ys H', Pv ps.length ys H' → Fin ys H') : CompG (Itl K a) 2 c (gTup K 2 (gCons (gName 0) (gCons (gName 1) gNil))) tt te H Fin := by
  refine ⟨fun i m ys H => m = ps.length - i ∧ i ≤ ps.length ∧ Pv i ys H, ⟨ps.length, by simp, Nat.zero_le _, h0⟩, ?_⟩
  rintro i m ys H' ⟨rfl, hi, p⟩
  have q := hl i ys H' hi p
  have hlen : (rs.map V.ref).length = ps.length := by rw [List.length_map, q.length]
  by_cases hlt : i < ps.length
  · refine .inr ⟨⟨_, (rs.map V.ref)[i]'(by omega), SqL.of q.1, List.getElem?_eq_getElem _⟩, hz i ys H' hlt p, Pv (i + 1), fun ys' H' p' => ⟨ps.length - (i + 1), by omega, rfl, hlt, p'⟩, fun x H2 y os hos => ?_⟩
    obtain ⟨e, y⟩ := y
    subst e
    obtain ⟨r, h1, h2⟩ := q.get hlt
    have hx := y _ (SqL.of q.1)
    rw [h1] at hx
    cases hx
    match os, hos with
    | [u, v], _ => exact ⟨r, _, rfl, SqT.of h2, rfl, _, _, rfl, _, _, rfl, rfl, hs i ys _ hlt p⟩
  · have e : i = ps.length := by omega
    subst e
    exact .inl ⟨⟨_, SqL.of q.1, Nat.le_of_eq hlen⟩, hd ys H' p⟩
end
/-- for x, y in a list of pairs -/
theorem for_pairs {K : PySem.W.Frag} {a : Addr} {rs : List Addr} {ps : List (Int × Int)} {tb : TS} {D : Ends} {σ : St} {H : Hp} {i1 i2 : Nat} (Pv : Nat → St → Hp → Prop) (h0 : Pv 0 σ H) (hl : ∀ i σ H, i ≤ ps.length → Pv i σ H → PrsR H a rs ps)
    (hs : ∀ i σ H (hi : i < ps.length), Pv i σ H → tb { D with nx := Pv (i + 1), ct := Pv (i + 1), bk := D.nx } ((σ.set i1 (some (.int ps[i].1))).set i2 (some (.int ps[i].2))) H) (hd : ∀ σ H, Pv ps.length σ H → D.nx σ H) :
    ∃ W : Nat → Nat → St → Hp → Prop, (∃ m, W 0 m σ H) ∧ ∀ i m σ H, W i m σ H →
      ((Itl K a).stop i H ∧ D.nx σ H) ∨ ((Itl K a).go i H ∧ ∃ N : St → Hp → Prop, (∀ σ' H', N σ' H' → ∃ m', m' < m ∧ W (i + 1) m' σ' H') ∧ ∀ x H', (Itl K a).yld i H x H' → (gTup K 2 (gCons (gName i1) (gCons (gName i2) gNil))) x σ H' fun σ2 H2 => tb { D with nx := N, ct := N, bk := D.nx } σ2 H2) := by
  have hlen : ∀ i σ H, i ≤ ps.length → Pv i σ H → (rs.map V.ref).length = ps.length := fun i σ H hi p => by rw [List.length_map, (hl i σ H hi p).length]
  have hlen0 := hlen 0 σ H (Nat.zero_le _) h0
  refine for_list (xs := rs.map V.ref) Pv h0 (fun i σ H hi p => SqL.of (hl i σ H (by omega) p).1) (fun i x σ H hx p => ?_) (fun σ H p => hd σ H (by rw [hlen0] at p; exact p))
  obtain ⟨hi, _⟩ := List.getElem?_eq_some_iff.mp hx
  rw [hlen0] at hi
  obtain ⟨r, h1, h2⟩ := (hl i σ H (by omega) p).get hi
  rw [h1] at hx
  cases hx
  exact ⟨r, _, rfl, SqT.of h2, rfl, _, _, rfl, _, _, rfl, rfl, hs i σ H hi p⟩

/-! ### bits -/
def fl (h : Int) (xs : List Int) : List Int := xs.flatMap fun n => [n, Builtin.bitXor h n]
def estep (h : Int) (E : List Int) (g : Int × Int) : List Int := E ++ [Builtin.bitAnd (E.getD g.1.toNat 0) (E.getD g.2.toNat 0), Builtin.bitXor h (Builtin.bitAnd (E.getD g.1.toNat 0) (E.getD g.2.toNat 0))]
/-- what the ends have, by the numbers of ins and boxes -/
def eL (h : Int) (xs : List Int) (gs : List (Int × Int)) : List Int := gs.foldl (estep h) ([0, h] ++ fl h xs)
end L2
namespace L2
open PySem PySem.Spec
/-- what ends tell -/
def told (E : List Int) (es : List Int) : List Int := es.map fun e => E.getD e.toNat 0
end L2

set_option Elab.async false
set_option linter.all false
set_option maxRecDepth 100000
/-! Nets: what ends become, and that they keep their bits. -/
namespace L2
open PySem PySem.Spec
def val (b : List Int) (e : Int) : Int := (b.getD (e / 2).toNat 0 + e) % 2
/-- [(f a, f b) for a, b in pairs] -/
theorem comp_pairs_tup {K : PySem.W.Frag} {a : Addr} {c : St} {te : TE} {H : Hp} {Fin : List V → Hp → Prop} {rs : List Addr} {ps : List (Int × Int)} (f : Int × Int → Int × Int) (hP : PrsR H a rs ps) (hz : ps.length ≤ 100000)
    (hs : ∀ p ∈ ps, ∀ H1, Same H H1 → ∀ N : V → Hp → Prop, (∀ t, H1 t = none → N (.ref t) (upd H1 t (.tup [.int (f p).1, .int (f p).2]))) → te (some (.int p.1) :: some (.int p.2) :: c) H1 N)
    (hd : ∀ (bs : List Addr) H', Same H H' → Paired (fun r (p : Int × Int) => H' r = some (.tup [.int p.1, .int p.2])) bs (ps.map f) → Fin (bs.map V.ref) H') : CompG (Itl K a) 2 c (gTup K 2 (gCons (gName 0) (gCons (gName 1) gNil))) tYes te H Fin := by
  refine comp_pairs (rs := rs) (ps := ps) (fun i ys H' => ∃ bs : List Addr, ys = bs.map V.ref ∧ Same H H' ∧ Paired (fun r (p : Int × Int) => H' r = some (.tup [.int p.1, .int p.2])) bs ((ps.take i).map f)) ⟨[], rfl, Same.refl _, .nil⟩ ?_ ?_ ?_ ?_
  · rintro i ys H' _ ⟨bs, _, s, _⟩
    exact hP.same s
  · rintro i ys H' hi ⟨bs, rfl, _, hb⟩
    rw [List.length_map, Paired.length hb, List.length_map, List.length_take]
    exact smallL (by omega)
  · rintro i ys H' hi ⟨bs, rfl, s, hb⟩
    unfold tYes
    dsimp only
    rw [if_pos rfl]
    refine hs _ (List.getElem_mem hi) H' s _ fun t ht => ⟨bs ++ [t], by rw [List.map_append]; rfl, s.trans (same_new ht _), ?_⟩
    rw [List.take_succ_eq_append_getElem hi, List.map_append]
    exact pairsNew _ _ hb ht
  · rintro ys H' ⟨bs, rfl, s, hb⟩
    rw [List.take_length] at hb
    exact hd bs H' s hb
/-! ### the start net -/
/-! ### the next net -/
section
end
/-! ### contracts -/
end L2

set_option Elab.async false
set_option linter.all false
set_option maxRecDepth 100000
/-! Any thing, by what it reads as. -/
namespace L2
open PySem PySem.Spec PyProof.Rows
section
end
mutual
/-- a value reads as a thing, all of it in the heap -/
def Dat (H : Hp) : PyData → V → Prop
  | .none, v => v = .non
  | .bool b, v => v = .bl b
  | .int i, v => v = .int i
  | .str x, v => v = .str x
  | .list ds, v => ∃ p xs, v = .ref p ∧ H p = some (.lst xs) ∧ Dats H ds xs
  | .tuple ds, v => ∃ p xs, v = .ref p ∧ H p = some (.tup xs) ∧ Dats H ds xs
  | .dict _, _ => False
def Dats (H : Hp) : List PyData → List V → Prop
  | [], xs => xs = []
  | d :: ds, xs => ∃ x r, xs = x :: r ∧ Dat H d x ∧ Dats H ds r
end
section
theorem Dats.get {ds : List PyData} {xs : List V} (a : Dats H ds xs) {i : Nat} {x : V} (h : xs[i]? = some x) : ∃ d, ds[i]? = some d ∧ Dat H d x := by
  induction ds generalizing xs i with
  | nil => unfold Dats at a; subst a; simp at h
  | cons d r ih =>
    unfold Dats at a
    obtain ⟨y, q, rfl, h1, h2⟩ := a
    cases i with
    | zero => simp at h; subst h; exact ⟨d, rfl, h1⟩
    | succ k => exact ih h2 (by simpa using h)
end
/-! ### kinds -/
section
end
/-! ### works -/
end L2

set_option Elab.async false
set_option linter.all false
set_option maxRecDepth 100000
/-! A bag of digits, and sayings. -/
namespace L2
open PySem PySem.Spec
def Bag (H : Hp) (l : Addr) : Prop := ∃ b0 b1 : Int, H l = some (.lst [.int b0, .int b1]) ∧ 0 ≤ b0
/-- all but the bag stays, the bag is one again -/
def Bg (l : Addr) (H H' : Hp) : Prop := (∀ b o, b ≠ l → H b = some o → H' b = some o) ∧ Bag H' l
theorem Bg.trans {l : Addr} {H H1 H2 : Hp} (a : Bg l H H1) (b : Bg l H1 H2) : Bg l H H2 := ⟨fun c o n e => b.1 c o n (a.1 c o n e), b.2⟩
theorem Bg.refl {l : Addr} {H : Hp} (b : Bag H l) : Bg l H H := ⟨fun _ _ _ e => e, b⟩
theorem Bag.ne {H : Hp} {l p : Addr} (b : Bag H l) (n : H p = none) : p ≠ l := fun e => by
  obtain ⟨_, _, h, _⟩ := b
  rw [e, h] at n; cases n
theorem Bag.neT {H : Hp} {l p : Addr} {xs : List V} (b : Bag H l) (n : H p = some (.tup xs)) : p ≠ l := fun e => by
  obtain ⟨_, _, h, _⟩ := b
  rw [e, h] at n; cases n
theorem Bg.new {l p : Addr} {H : Hp} (b : Bag H l) (n : H p = none) (o : HO) : Bg l H (upd H p o) := by
  refine ⟨fun c u _ e => by rw [upd_ne (ne_of_none e n)]; exact e, ?_⟩
  obtain ⟨b0, b1, h, h0⟩ := b
  exact ⟨b0, b1, by rw [upd_ne (ne_of_none h n)]; exact h, h0⟩
theorem Bg.put {l : Addr} {H : Hp} (b0 b1 : Int) (h0 : 0 ≤ b0) : Bg l H (upd H l (.lst [.int b0, .int b1])) :=
  ⟨fun c u n e => by rw [upd_ne n]; exact e, b0, b1, upd_same, h0⟩
theorem Bag.set {l p : Addr} {H : Hp} (b : Bag H l) (hp : p ≠ l) (o : HO) : Bag (upd H p o) l := by
  obtain ⟨b0, b1, h, h0⟩ := b
  exact ⟨b0, b1, by rw [upd_ne (Ne.symm hp)]; exact h, h0⟩
theorem Bg.same {l : Addr} {H H1 H2 : Hp} (n : H l = none) (a : Same H H1) (b : Bg l H1 H2) : Same H H2 := fun c o e => b.1 c o (ne_of_none e n) (a c o e)
theorem Bag.same {H H' : Hp} {l : Addr} (b : Bag H l) (s : Same H H') : Bg l H H' := by
  obtain ⟨b0, b1, h, h0⟩ := b
  exact ⟨fun c o _ e => s c o e, b0, b1, s _ _ h, h0⟩
theorem at_map {ns : List Int} {i : Nat} (h : i < ns.length) : ∃ v : Int, atI (ns.map V.int) (i : Int) = some (.int v) :=
  ⟨ns[i], atI_nat (by rw [List.getElem?_map, List.getElem?_eq_getElem h] <;> rfl)⟩
theorem at_mapI {ns : List Int} {i : Int} (h0 : 0 ≤ i) (h : i < ns.length) : ∃ v : Int, atI (ns.map V.int) i = some (.int v) := by
  obtain ⟨k, rfl⟩ := Int.eq_ofNat_of_zero_le h0
  exact at_map (by omega)
def sp_L_take : Sp := fun vs H Q _ => ∃ (l : Addr) (many : Int), vs = [.ref l, .int many] ∧ Bag H l ∧ 0 < many ∧ many < bigB ∧ ∀ d H', 0 ≤ d → d < many → Bg l H H' → Q (.int d) H'
/-! ### sayings -/
/-! ### things of tuples alone stay where tuples do -/
def KeepT (H H' : Hp) : Prop := ∀ p xs, H p = some (.tup xs) → H' p = some (.tup xs)
theorem KeepT.same {H H' : Hp} (s : Same H H') : KeepT H H' := fun p xs h => s _ _ h
theorem KeepT.trans {H H1 H2 : Hp} (a : KeepT H H1) (b : KeepT H1 H2) : KeepT H H2 := fun p xs h => b _ _ (a _ _ h)
theorem KeepT.lst {H : Hp} {p : Addr} {xs : List V} (h : H p = some (.lst xs)) (o : HO) : KeepT H (upd H p o) := fun q ys e => by
  rw [upd_ne (fun z => by rw [z, h] at e; cases e)]
  exact e
theorem Bg.keepT {l : Addr} {H H' : Hp} (b : Bag H l) (g : Bg l H H') : KeepT H H' := fun p xs h => g.1 p _ (b.neT h) h
end L2

set_option Elab.async false
set_option linter.all false
set_option maxRecDepth 100000
/-! Comprehensions whose own names stand in cells (another comprehension reads them). -/
namespace L2
open PySem PySem.Spec PyProof.Rows
section
end
end L2

set_option Elab.async false
set_option linter.all false
set_option maxRecDepth 100000
/-! Rows of rows, and runs. -/
namespace L2
open PySem PySem.Spec
theorem pairedSn {α β : Type} {R : α → β → Prop} {xs us : List α} {ys vs : List β} (p : Paired R xs ys) (q : Paired R us vs) : Paired R (xs ++ us) (ys ++ vs) := pairedApp q p
theorem take_get {α : Type} {xs : List α} {i : Nat} {x : α} (h : xs[i]? = some x) : xs.take (i + 1) = xs.take i ++ [x] := by
  obtain ⟨hi, he⟩ := List.getElem?_eq_some_iff.mp h
  rw [List.take_succ_eq_append_getElem hi, he]
end L2

set_option Elab.async false
set_option linter.all false
set_option maxRecDepth 100000
/-! Many runs at once: the lanes of wholes. -/
namespace L2
open PySem PySem.Spec
section
end
end L2

set_option Elab.async false
set_option linter.all false
set_option maxRecDepth 100000
/-! range(n) as a thing, and list of it. -/
namespace L2
open PySem PySem.Spec PyProof.Rows
variable {X : Cx}
theorem call_rangeO : CallR X (.type "range") (fun xs H Q => ∃ n : Int, xs = [.int n] ∧ ∀ p, H p = none → Q (.ref p) (upd H p (.rng 0 n))) := by
  intro pins s σ H xs us Q I r h
  obtain ⟨n, rfl, q⟩ := h
  obtain ⟨u, rfl, rx⟩ := vals1 r
  obtain ⟨t, rfl⟩ := rx
  refine call_range_1 ?_
  exact ⟨.ref s.heap.objs.size, _, I.laid (a := s.heap.objs.size) (o := .rng 0 n) (fun _ _ e => Heap.get?_push_of_some _ e) (Nat.le_refl _) ⟨_, _, _, Heap.get?_push_size _ rfl⟩, rfl, q _ (I.hok.fresh (Nat.le_refl _))⟩
theorem items_vals {n : Nat} {acc : Array Value} (h : ItemsOf (fun i v => ∃ t, v = Value.int ((0 : Int) + i * 1) t) acc n) : Vals ((List.range n).map fun i => V.int (i : Nat)) acc.toList := by
  obtain ⟨h1, h2⟩ := h
  have hl : acc.toList.length = n := by rw [Array.length_toList]; exact h1
  have go : ∀ (l : List Value) (k m : Nat), l.length = m → (∀ j v, l[j]? = some v → ∃ t, v = Value.int ((0 : Int) + ((k + j : Nat) : Int) * 1) t) → Vals ((List.range' k m).map fun i => V.int (i : Nat)) l := by
    intro l
    induction l with
    | nil =>
      intro k m hm _
      subst hm
      exact .nil
    | cons v l ih =>
      intro k m hm hv
      cases m with
      | zero => cases hm
      | succ m =>
        rw [List.range'_succ, List.map_cons]
        refine .cons ?_ (ih (k + 1) m (by simpa using hm) fun j u hj => ?_)
        · obtain ⟨t, rfl⟩ := hv 0 v rfl
          refine ⟨t, ?_⟩
          congr 1
          omega
        · obtain ⟨t, e⟩ := hv (j + 1) u (by simpa using hj)
          exact ⟨t, by rw [e]; congr 1; push_cast; omega⟩
  rw [List.range_eq_range']
  refine go acc.toList 0 n hl fun j v hj => ?_
  obtain ⟨t, e⟩ := h2 j v (by simpa using hj)
  exact ⟨t, by rw [e, Nat.zero_add]⟩
theorem call_list_rng (hc : X.calm = true) : CallR X (.type "list") (fun xs H Q => ∃ p n, xs = [.ref p] ∧ H p = some (.rng 0 n) ∧ 0 ≤ n ∧ n ≤ 10000 ∧ ∀ l, H l = none → Q (.ref l) (upd H l (.lst ((List.range n.toNat).map fun i => V.int (i : Nat))))) := by
  intro pins s σ H xs us Q I r h
  obtain ⟨p, n, rfl, hp, n0, n1, q⟩ := h
  obtain ⟨u, rfl, rx⟩ := vals1 r
  cases rx
  obtain ⟨t, u, v, e⟩ : ∃ t u v, s.heap.get? p = some { cls := .type "range", data := .fields #[.int 0 t, .int n u, .int 1 v] } := I.hok p _ hp
  have hsz : Builtin.Range.rangeSize 0 n 1 = ((n.toNat : Nat) : Int) := by rw [rangeSize_one]; split <;> omega
  refine call_list_range (I.ok.hd hc) e (small_one (by decide) (by decide) (by omega) (by omega)) hsz (Nat.le_trans (show n.toNat ≤ 10000 by omega) (by decide)) fun h' tk acc c' kp e' hi => ?_
  refine ⟨.ref s.heap.objs.size, _, I.laid (a := s.heap.objs.size) (o := .lst ((List.range n.toNat).map fun i => V.int (i : Nat))) kp (Nat.le_refl _) ⟨?_, acc.toList, c', items_vals hi, e'⟩, rfl, q _ (I.hok.fresh (Nat.le_refl _))⟩
  rw [List.length_map, List.length_range]
  exact small (by omega)
end L2

set_option Elab.async false
set_option linter.all false
/-! Sums and bits of one word over another. -/
namespace L2
open PySem
theorem xor_sum (a b : Nat) : (a ^^^ b) + 2 * (a &&& b) = a + b := by
  induction a using Nat.strongRecOn generalizing b with
  | _ a ih =>
    by_cases ha : a = 0
    · subst ha; simp
    · have e1 : a ^^^ b = 2 * ((a / 2) ^^^ (b / 2)) + (a ^^^ b) % 2 := by
        have := Nat.div_add_mod (a ^^^ b) 2
        rw [Nat.xor_div_two] at this
        omega
      have e2 : a &&& b = 2 * ((a / 2) &&& (b / 2)) + (a &&& b) % 2 := by
        have := Nat.div_add_mod (a &&& b) 2
        rw [Nat.and_div_two] at this
        omega
      have e3 := ih (a / 2) (by omega) (b / 2)
      have e4 : (a ^^^ b) % 2 + 2 * ((a &&& b) % 2) = a % 2 + b % 2 := by
        have h1 : (a ^^^ b) % 2 = 1 ↔ ¬ (a % 2 = 1 ↔ b % 2 = 1) := Nat.xor_mod_two_eq_one
        have h2 : (a &&& b) % 2 = 1 ↔ a % 2 = 1 ∧ b % 2 = 1 := Nat.and_mod_two_eq_one
        generalize (a ^^^ b) = c at h1
        generalize (a &&& b) = d at h2
        by_cases ha' : a % 2 = 1 <;> by_cases hb' : b % 2 = 1 <;> simp only [ha', hb', iff_true, true_iff, iff_false, not_true, not_false_iff, and_self, and_false, false_and, true_and, and_true, false_iff] at h1 h2 <;> omega
      omega
/-- the bits of two wholes apart -/
theorem xor_nat (a b : Nat) : Builtin.bitXor (a : Int) (b : Int) = ((a ^^^ b : Nat) : Int) := by
  rw [PyProof.Rows.bitXor_and, PyProof.Rows.bitAnd_pp (by omega) (by omega), Int.toNat_natCast, Int.toNat_natCast]
  have h := xor_sum a b
  omega
end L2

set_option Elab.async false
set_option linter.all false
set_option maxRecDepth 100000
/-! zip of two lists, walked by a loop. -/
namespace L2
open PySem PySem.Spec PyProof.Rows
section
variable {X : Cx} {pins : List (Addr × Obj)} {σ : St} {H : Hp} {s : Shared} {h' : Heap}
theorem Inv.turnedL {t' : Nat} {ch : List Addr} (I : Inv X pins σ H s) (k : ∀ b o, b ∉ ch → s.heap.get? b = some o → h'.get? b = some o) (hc : ∀ b ∈ ch, FpOk X pins H b) : Inv X pins σ H { s with heap := h', toks := t' } := by
  have nit : ∀ b u, H b = some u → b ∉ ch := fun b u e z => by have := (hc b z).1; rw [this] at e; cases e
  refine I.step (g' := s.gens) (d' := s.drawn) (ch := ch) (fun b hb => ?_) (fun b o _ _ hn e _ => k b o hn e) (fun b o _ _ hn e _ => ⟨o.slots, k b o hn e⟩) (fun _ _ _ _ n => n)
    (fun b o hn e => ⟨o, k b o hn e⟩) (fun _ _ e => e) (fun _ _ _ e => e) (fun b ps e => ⟨#[], by rw [e]; simp⟩) (fun m hm => ?_) (fun b u e => ?_) I.bare
  · obtain ⟨_, f1, _, f3, f4, f5⟩ := hc b hb
    exact ⟨f3, f1, f4, f5⟩
  · obtain ⟨o, es, ep, ho, r⟩ := hm
    exact ⟨o, es, ep, k _ o (fun z => (hc _ z).2.1 rfl) ho, r⟩
  · refine (I.hok b u e).stay (fun c v hn q => k c v ?_ q) (fun _ q => q) fun _ _ q => q
    rcases hn with z | z
    · rw [z]; exact nit b u e
    · exact nit c _ z
end
def Itz (K : PySem.W.Frag) (a b : Addr) : It :=
  ⟨fun i H => ∃ xs ys x y, SqL K H a xs ∧ SqL K H b ys ∧ xs[i]? = some x ∧ ys[i]? = some y,
   fun i H v H' => ∃ p x y, v = .ref p ∧ H p = none ∧ H' = upd H p (.tup [x, y]) ∧ (∀ xs, SqL K H a xs → xs[i]? = some x) ∧ ∀ ys, SqL K H b ys → ys[i]? = some y,
   fun i H => ∃ xs ys, SqL K H a xs ∧ SqL K H b ys ∧ (xs.length ≤ i ∨ ys.length ≤ i)⟩
theorem turn_zip {P : Program} {w : World} {K : PySem.W.Frag} {elts : List Expr} {kk : Nat} {pos : Pos} (a b z TI TO i1 i2 : Addr) (D : ZipApart z TI TO i1 i2 a b) :
    Turn P w K (.Tuple elts kk pos) (Itz K a b) [z, TI, TO, i1, i2] z (fun i h => IsZip h z TI TO .none ∧ IsPair h TI (.ref i1) (.ref i2) ∧ (∃ c d, IsPair h TO c d) ∧ h.IsListIter i1 a i ∧ h.IsListIter i2 b i) where
  mem := by simp
  obj := fun i h st c hc => by
    obtain ⟨h1, h2, ⟨x, y, h3⟩, ⟨o4, e4, c4, d4⟩, ⟨o5, e5, c5, d5⟩⟩ := st
    have hc' : c = z ∨ c = TI ∨ c = TO ∨ c = i1 ∨ c = i2 := by simpa using hc
    rcases hc' with rfl | rfl | rfl | rfl | rfl
    · exact ⟨_, h1, fun v q => by cases q⟩
    · exact ⟨_, h2, fun v q => by cases q⟩
    · exact ⟨_, h3, fun v q => by cases q⟩
    · exact ⟨o4, e4, fun v q => by rw [d4] at q; cases q⟩
    · exact ⟨o5, e5, fun v q => by rw [d5] at q; cases q⟩
  keep := fun i h h' st k => by
    obtain ⟨h1, h2, ⟨x, y, h3⟩, h4, h5⟩ := st
    exact ⟨k z (by simp) _ h1, k TI (by simp) _ h2, ⟨x, y, k TO (by simp) _ h3⟩, h4.at fun o e => k i1 (by simp) o e, h5.at fun o e => k i2 (by simp) o e⟩
  item := by
    intro X hP hw hK hc i pins s σ H E I hf st hg
    subst hP hw hK
    obtain ⟨xs, ys, x, y, hq1, hq2, hx, hy⟩ := hg
    obtain ⟨its1, rv1, p1, hz1⟩ := I.list hq1
    obtain ⟨its2, rv2, p2, hz2⟩ := I.list hq2
    obtain ⟨u1, hu1, ru1⟩ := rv1.get hx
    obtain ⟨u2, hu2, ru2⟩ := rv2.get hy
    obtain ⟨sz, sTI, ⟨c, d, sTO⟩, s1, s2⟩ := st
    refine wpAny_pyNext_zip_item D sz sTI sTO s1 s2 p1.isList p2.isList (x := u1) (y := u2) (by simpa using hu1) (by simpa using hu2) fun h' b1 b2 b3 b4 b5 b6 hk => ?_
    have lt : ∀ {c o}, s.heap.get? c = some o → c ≠ s.heap.objs.size := fun e => Nat.ne_of_lt (Heap.lt_size e)
    have I0 : Inv X pins σ (upd H s.heap.objs.size (.tup [x, y])) { s with heap := s.heap.push { cls := .type "tuple", data := .seq #[u1, u2] }, toks := s.toks } :=
      I.laid (a := s.heap.objs.size) (o := .tup [x, y]) (t' := s.toks) (fun b u e => Heap.get?_push_of_some _ e) (Nat.le_refl _) ⟨(by show 2 ≤ sizeLine; decide), [u1, u2], .cons ru1 (.cons ru2 .nil), _, Heap.get?_push_size _ rfl, rfl, _, rfl⟩
    have hnone : ∀ c ∈ [z, TI, TO, i1, i2], (upd H s.heap.objs.size (.tup [x, y])) c = none := fun c hc' => by
      have hne : c ≠ s.heap.objs.size := by
        have hc'' : c = z ∨ c = TI ∨ c = TO ∨ c = i1 ∨ c = i2 := by simpa using hc'
        rcases hc'' with rfl | rfl | rfl | rfl | rfl
        · exact lt sz
        · exact lt sTI
        · exact lt sTO
        · obtain ⟨_, e, _⟩ := s1; exact lt e
        · obtain ⟨_, e, _⟩ := s2; exact lt e
      rw [upd_ne hne]
      exact (hf c hc').1
    have hf' : ∀ c ∈ [z, TI, TO, i1, i2], FpOk X pins (upd H s.heap.objs.size (.tup [x, y])) c := fun c hc' => ⟨hnone c hc', (hf c hc').2⟩
    have kk1 : ∀ c o, c ∉ [z, TO, i1, i2] → (s.heap.push { cls := .type "tuple", data := .seq #[u1, u2] }).get? c = some o → h'.get? c = some o := fun c o hn e => by
      rcases Heap.get?_push_cases e with ⟨rfl, rfl⟩ | e'
      · exact b5
      · exact hk c o (fun q => hn (by simp [q])) (fun q => hn (by simp [q])) (fun q => hn (by simp [q])) (fun q => hn (by simp [q])) e'
    have kk2 : ∀ c ∈ [z, TO, i1, i2], FpOk X pins (upd H s.heap.objs.size (.tup [x, y])) c := fun c hc' => hf' c (by
      have hc'' : c = z ∨ c = TO ∨ c = i1 ∨ c = i2 := by simpa using hc'
      rcases hc'' with rfl | rfl | rfl | rfl <;> simp)
    have I1 := I0.turnedL (h' := h') (t' := s.toks) (ch := [z, TO, i1, i2]) kk1 kk2
    refine ⟨_, rfl, wpAny_letOwnedTupleGo_zip b1 fun h2 c1 c2 => ?_⟩
    have I2 := I1.turnedL (h' := h2) (t' := s.toks) (ch := [z]) (fun c o hn e => (c2.2 c (fun q => hn (by simp [q]))).trans e) (fun c hc' => hf' c (by rw [List.mem_singleton.mp hc']; simp))
    refine ⟨.ref s.heap.objs.size, _, I2, rfl, ⟨_, x, y, rfl, I.hok.fresh (Nat.le_refl _), rfl, fun xs' q => by rw [I.list_inj q hq1]; exact hx, fun ys' q => by rw [I.list_inj q hq2]; exact hy⟩, ?_, hnone⟩
    have mv : ∀ c o, c ≠ z → h'.get? c = some o → h2.get? c = some o := fun c o hn e => (c2.2 c hn).trans e
    exact ⟨c1, mv _ _ D.TIz (hk _ _ D.TIz D.TITO D.TIi1 D.TIi2 sTI), ⟨_, _, mv _ _ D.TOz b2⟩, b3.at fun o e => mv _ o D.i1z e, b4.at fun o e => mv _ o D.i2z e⟩
  done := by
    intro X hP hw hK hc i pins s σ H E I hf st hg
    subst hP hw hK
    obtain ⟨xs, ys, hq1, hq2, hx⟩ := hg
    obtain ⟨its1, rv1, p1, hz1⟩ := I.list hq1
    obtain ⟨its2, rv2, p2, hz2⟩ := I.list hq2
    have l1 := rv1.length
    have l2 := rv2.length
    obtain ⟨sz, sTI, ⟨c, d, sTO⟩, s1, s2⟩ := st
    refine wpAny_pyNext_zip_end (I.ok.hd hc) D sz sTI sTO s1 s2 p1.isList p2.isList ?_ fun h' hk => ⟨rfl, I.turnedL (t' := s.toks) (ch := [z, TO, i1, i2]) (fun c o hn e => hk c o (fun q => hn (by simp [q])) (fun q => hn (by simp [q])) (fun q => hn (by simp [q])) (fun q => hn (by simp [q])) e) (fun c hc' => hf c ?_)⟩
    · rcases hx with q | q
      · exact .inl (by simp; omega)
      · exact .inr (by simp; omega)
    · have hc'' : c = z ∨ c = TO ∨ c = i1 ∨ c = i2 := by simpa using hc'
      rcases hc'' with rfl | rfl | rfl | rfl <;> simp
  self := fun _ _ _ _ _ st h => wpAny_pyIter_zip st.1 h
def iZip (K : PySem.W.Frag) (ta : TA) : TI := fun σ H R => ta σ H fun vs H1 => ∃ a b, vs = [.ref a, .ref b] ∧ (∃ xs, SqL K H1 a xs) ∧ (∃ ys, SqL K H1 b ys) ∧ R (Itz K a b) H1
theorem pi_zip {X : Cx} {elts : List Expr} {kk : Nat} {tpos : Pos} {a b : Expr} {ta : TA} {p pos : Pos} (hg : Gl X "zip") (hm : X.mg "zip" = none) (ha : PA X [a, b] ta) (hs : starEach [a, b] X.env = [(false, eval a X.env), (false, eval b X.env)] := by rfl) (hs2 : starEach [b] X.env = [(false, eval b X.env)] := by rfl) :
    PI X (.Tuple elts kk tpos) (.Call (.Name "zip" p) [a, b] [] pos) (iZip X.K ta) := by
  intro pins s σ H R I h
  refine Call_ (ld_blt I hg hm PyProof.Rows.boot_zip (PyProof.Rows.callWith_type1 (thn (ha pos pins s σ H _ I h) fun us s1 ⟨vs, H1, I1, r1, q1⟩ => ?_) (by rw [hs, hs2]) (by rw [hs2]; rfl)))
  obtain ⟨l1, l2, e, ⟨xs, hq1⟩, ⟨ys, hq2⟩, q⟩ := q1
  subst e
  cases r1 with
  | cons r rr =>
    cases rr with
    | cons r' rr =>
      cases rr
      cases r
      cases r'
      obtain ⟨its1, rv1, p1, hz1⟩ := I1.list hq1
      obtain ⟨its2, rv2, p2, hz2⟩ := I1.list hq2
      have hlt1 : @LT.lt Nat _ l1 s1.heap.objs.size := by obtain ⟨o, e, _⟩ := p1.isList; exact Heap.lt_size e
      have hlt2 : @LT.lt Nat _ l2 s1.heap.objs.size := by obtain ⟨o, e, _⟩ := p2.isList; exact Heap.lt_size e
      refine call_zip_2 p1.isList p2.isList fun h' hz hTI hTO hi1 hi2 hsz hk => wpAny_pyIter_zip hz ?_
      have D : ZipApart (s1.heap.objs.size + 4) (s1.heap.objs.size + 2) (s1.heap.objs.size + 3) s1.heap.objs.size (s1.heap.objs.size + 1) l1 l2 := PySem.W.ktu_apart _ _ _ hlt1 hlt2
      refine ⟨_, [s1.heap.objs.size + 4, s1.heap.objs.size + 2, s1.heap.objs.size + 3, s1.heap.objs.size, s1.heap.objs.size + 1], _, _, H1, rfl, I1.kept (t' := s1.toks) hk, turn_zip l1 l2 _ _ _ _ _ D, ⟨hz, hTI, ⟨_, _, hTO⟩, hi1, hi2⟩, fun c hc => ?_, q⟩
      have hc' : c = s1.heap.objs.size + 4 ∨ c = s1.heap.objs.size + 2 ∨ c = s1.heap.objs.size + 3 ∨ c = s1.heap.objs.size ∨ c = s1.heap.objs.size + 1 := by simpa using hc
      have hle : @LE.le Nat _ s1.heap.objs.size c := by
        rcases hc' with rfl | rfl | rfl | rfl | rfl
        · exact Nat.le_add_right _ _
        · exact Nat.le_add_right _ _
        · exact Nat.le_add_right _ _
        · exact Nat.le_refl _
        · exact Nat.le_add_right _ _
      exact I1.fpOk hle (I1.hok.fresh hle)
theorem for_zip {K : PySem.W.Frag} {a b : Addr} {xs ys : List V} {g : TG} {tb : TS} {D : Ends} {σ : St} {H : Hp} (Pv : Nat → St → Hp → Prop) (h0 : Pv 0 σ H) (hl : ∀ i σ H, Pv i σ H → SqL K H a xs ∧ SqL K H b ys) (he : xs.length = ys.length)
    (hs : ∀ i x y p σ H, xs[i]? = some x → ys[i]? = some y → Pv i σ H → H p = none → g (.ref p) σ (upd H p (.tup [x, y])) fun σ2 H2 => tb { D with nx := Pv (i + 1), ct := Pv (i + 1), bk := D.nx } σ2 H2) (hd : ∀ σ H, Pv xs.length σ H → D.nx σ H) :
    ∃ W : Nat → Nat → St → Hp → Prop, (∃ m, W 0 m σ H) ∧ ∀ i m σ H, W i m σ H →
      ((Itz K a b).stop i H ∧ D.nx σ H) ∨ ((Itz K a b).go i H ∧ ∃ N : St → Hp → Prop, (∀ σ' H', N σ' H' → ∃ m', m' < m ∧ W (i + 1) m' σ' H') ∧ ∀ x H', (Itz K a b).yld i H x H' → g x σ H' fun σ2 H2 => tb { D with nx := N, ct := N, bk := D.nx } σ2 H2) := by
  refine ⟨fun i m σ H => m = xs.length - i ∧ i ≤ xs.length ∧ Pv i σ H, ⟨xs.length, by simp, Nat.zero_le _, h0⟩, ?_⟩
  rintro i m σ H ⟨rfl, hi, p⟩
  obtain ⟨q1, q2⟩ := hl i σ H p
  by_cases hlt : i < xs.length
  · have hlt2 : i < ys.length := by omega
    refine .inr ⟨⟨xs, ys, xs[i], ys[i], q1, q2, by simp [hlt], by simp [hlt2]⟩, Pv (i + 1), fun σ' H' p' => ⟨xs.length - (i + 1), by omega, rfl, hlt, p'⟩, fun v H' y => ?_⟩
    obtain ⟨pp, x, y, rfl, hp, rfl, e1, e2⟩ := y
    exact hs i x y pp σ H (e1 xs q1) (e2 ys q2) p hp
  · have e : i = xs.length := by omega
    subst e
    exact .inl ⟨⟨xs, ys, q1, q2, .inl (Nat.le_refl _)⟩, hd σ H p⟩
end L2

set_option Elab.async false
set_option linter.all false
set_option maxRecDepth 100000
/-! dict(d), and two dicts compared. -/
namespace L2
open PySem PySem.Spec PyProof.Rows
end L2
namespace L2
open PySem PySem.Spec PyProof.Rows
end L2

set_option Elab.async false
set_option linter.all false
set_option maxRecDepth 100000
namespace L2
open PySem PySem.Spec PyProof.Rows
end L2
namespace HT
open PySem PyProof.Rows
section
variable {prog : Program} {w : World} {A : Around} {s : Shared} {E : Value → Shared → Prop}
theorem getItem_tuple_whole {t sl : Addr} {items : Array Value} {vl vu : Value} {lo hi : Option Int} {Q : Value → Shared → Prop} (ht : IsTup s.heap t items) (hs : s.heap.IsSliceOf sl vl vu .none) (pl : IsPart vl lo) (pu : IsPart vu hi)
    (hw : sIx items.size 0 lo = 0 ∧ sIx items.size items.size hi = items.size) (h : Q (.ref t) s) : wpAny (model prog w) A (getItem (.ref t) (.ref sl)) Q E s := by
  obtain ⟨os, hos, hcs, hds⟩ := id hs
  have hTs : s.TypeIs (.ref sl) "slice" := ⟨os, hos, hcs⟩
  unfold getItem
  try with_reducible refine wpAny_holding ?_
  first | refine wpAny_bind (wpAny_pure ?_) | skip
  refine wpAny_bind (wpAny_sequenceKey ht.typeIs (by decide) ?_)
  refine wpAny_bind (wpAny_callSpecial?_slot (name := Str.ofString "__getitem__") ht.typeIs PyProof.Rows.slot_tuple_getitem
    (wpAny_call_entry PyProof.Rows.slot_tuple_getitem ht.typeIs entry_tuple_getitem ?_ (args_tuple_getitem _ _)))
  show wpAny _ _ (Builtin.Tuple.tupleItemsOf (.ref t) >>= _) _ _ s
  refine wpAny_bind (tupleItemsOf_ ht ?_)
  refine wpAny_bind (wpAny_typeOf hTs ?_)
  rw [if_pos (by decide)]
  refine wpAny_bind (sliceApplied_gen hs pl pu ?_)
  have hyes : ((((sIx items.size 0 lo : Nat) : Int) == 0 && (1 : Int) == 1 && (sIx items.size items.size hi - sIx items.size 0 lo) == items.size) = true) := by
    rw [hw.1, hw.2]
    simp
  show wpAny _ _ (if (((sIx items.size 0 lo : Nat) : Int) == 0 && (1 : Int) == 1 && (sIx items.size items.size hi - sIx items.size 0 lo) == items.size) = true then _ else _) _ _ s
  rw [if_pos hyes]
  refine wpAny_bind (m := Builtin.Tuple.tupleIsExact _) (wpAny_bind (wpAny_typeOf ht.typeIs (wpAny_pure ?_)))
  rw [if_pos (by decide)]
  exact wpAny_bind (wpAny_rule (wpAny_pure ⟨_, rfl, wpAny_pure h⟩))
end
end HT
namespace L2
open PySem PySem.Spec PyProof.Rows
def rSlE : V → Option Int → Option Int → Hp → VK → Prop := fun x lo hi H Q => ∃ a xs, x = .ref a ∧ H a = some (.tup xs) ∧ ∀ p H', Same H H' → H' p = some (.tup (cutV xs lo hi)) → Q (.ref p) H'
theorem sl_tupE {X : Cx} : SlR X rSlE := by
  intro pins s σ H x v vl vu lo hi sl Q I rx hs pl pu h
  obtain ⟨a, xs, rfl, hx, q⟩ := h
  by_cases hw : HT.sIx xs.length 0 lo = 0 ∧ HT.sIx xs.length xs.length hi = xs.length
  · cases rx
    obtain ⟨its, r, ht, hz⟩ := I.tuple (SqT.of hx)
    have hlen : its.toArray.size = xs.length := by rw [List.size_toArray]; exact r.length.symm
    refine ⟨"tuple", _, PyProof.Rows.slot_tuple_getitem.lookup, ht.typeIs, ?_⟩
    refine HT.getItem_tuple_whole ht hs pl pu (by rw [hlen]; exact hw) ?_
    refine ⟨.ref a, H, I, rfl, q a H (Same.refl H) ?_⟩
    have : cutV xs lo hi = xs := by
      unfold cutV
      rw [hw.1, hw.2]
      simp
    rw [this]
    exact hx
  · exact sl_tup pins s σ H _ v vl vu lo hi sl Q I rx hs pl pu ⟨a, xs, rfl, SqT.of hx, hw, fun p hp => q p _ (same_new hp _) upd_same⟩
end L2

namespace L2
open PySem PySem.Spec PyProof.Rows
/-! ### a display of things that are written out, at once -/
end L2

set_option Elab.async false
set_option linter.all false
set_option maxRecDepth 100000
/-! Sayings of any thing. -/
namespace L2
open PySem
end L2

set_option Elab.async false
set_option linter.all false
set_option maxRecDepth 100000
/-! Widths of sayings. -/
namespace L2
open PySem
end L2

set_option Elab.async false
set_option linter.all false
/-! Rows of bits, the lowest one first. -/
namespace L2
/-- sums by carrying -/
def cy (X Y c i : Nat) : Nat := (X % 2 ^ i + Y % 2 ^ i + c) / 2 ^ i
/-! the rows -/
end L2
namespace L2
theorem or_sum (a b : Nat) : (a ||| b) + (a &&& b) = a + b := by
  induction a using Nat.strongRecOn generalizing b with
  | _ a ih =>
    by_cases ha : a = 0
    · subst ha; simp
    · have e1 : a ||| b = 2 * ((a / 2) ||| (b / 2)) + (a ||| b) % 2 := by
        have := Nat.div_add_mod (a ||| b) 2
        rw [Nat.or_div_two] at this
        omega
      have e2 : a &&& b = 2 * ((a / 2) &&& (b / 2)) + (a &&& b) % 2 := by
        have := Nat.div_add_mod (a &&& b) 2
        rw [Nat.and_div_two] at this
        omega
      have e3 := ih (a / 2) (by omega) (b / 2)
      have e4 : (a ||| b) % 2 + (a &&& b) % 2 = a % 2 + b % 2 := by
        have h1 : (a ||| b) % 2 = 1 ↔ a % 2 = 1 ∨ b % 2 = 1 := Nat.or_mod_two_eq_one
        have h2 : (a &&& b) % 2 = 1 ↔ a % 2 = 1 ∧ b % 2 = 1 := Nat.and_mod_two_eq_one
        generalize (a ||| b) = c at h1
        generalize (a &&& b) = d at h2
        by_cases ha' : a % 2 = 1 <;> by_cases hb' : b % 2 = 1 <;> simp only [ha', hb', or_true, true_or, or_self, iff_true, true_iff, iff_false, and_self, and_false, false_and, true_and, and_true, false_iff] at h1 h2 <;> omega
      omega
end L2

set_option Elab.async false
set_option linter.all false
set_option maxRecDepth 100000
/-! A dict that stays as it is, walked; lists of dicts compared; sums of lists, lists turned round, lists in order. -/
namespace L2
open PySem PySem.Spec PyProof.Rows
section
end
section
end
end L2
namespace L2
open PySem PySem.Spec PyProof.Rows PySem.SeqAt MeetsSeq MeetsSeq2 MeetsSeq3
open AutoSeq1 (wpAny_loadPart')
end L2
namespace L2
open PySem PySem.Spec PyProof.Rows PySem.SeqAt MeetsSeq MeetsSeq2 MeetsSeq3
open AutoSeq1 (wpAny_loadPart')
end L2

set_option Elab.async false
set_option linter.all false
set_option maxRecDepth 100000
/-! enumerate of a list, walked by a loop or a comprehension. -/
namespace L2
open PySem PySem.Spec PyProof.Rows
def Ite (K : PySem.W.Frag) (a : Addr) : It :=
  ⟨fun i H => ∃ xs x, SqL K H a xs ∧ xs[i]? = some x,
   fun i H v H' => ∃ p x, v = .ref p ∧ H p = none ∧ H' = upd H p (.tup [.int (i : Int), x]) ∧ ∀ xs, SqL K H a xs → xs[i]? = some x,
   fun i H => ∃ xs, SqL K H a xs ∧ xs.length ≤ i⟩
theorem turn_enum {P : Program} {w : World} {K : PySem.W.Frag} {elts : List Expr} {kk : Nat} {pos : Pos} (a e it : Addr) (hne : e ≠ it) :
    Turn P w K (.Tuple elts kk pos) (Ite K a) [e, it] e (fun i h => (∃ old, IsEnum h e it (i : Int) old) ∧ h.IsListIter it a i) where
  mem := by simp
  obj := fun i h st c hc => by
    obtain ⟨⟨old, h1⟩, ⟨o4, e4, c4, d4⟩⟩ := st
    have hc' : c = e ∨ c = it := by simpa using hc
    rcases hc' with rfl | rfl
    · exact ⟨_, h1, fun v q => by cases q⟩
    · exact ⟨o4, e4, fun v q => by rw [d4] at q; cases q⟩
  keep := fun i h h' st k => by
    obtain ⟨⟨old, h1⟩, h2⟩ := st
    exact ⟨⟨old, k e (by simp) _ h1⟩, h2.at fun o q => k it (by simp) o q⟩
  item := by
    intro X hP hw hK hc i pins s σ H E I hf st hg
    subst hP hw hK
    obtain ⟨xs, x, hq, hx⟩ := hg
    obtain ⟨its, rv, p1, hz1⟩ := I.list hq
    obtain ⟨u1, hu1, ru1⟩ := rv.get hx
    obtain ⟨⟨old, se⟩, si⟩ := st
    refine wpAny_pyNext_enum_item se si p1.isList (x := u1) (by simpa using hu1) hne fun h' b1 b2 b3 b4 hk => ?_
    have lt : ∀ {c o}, s.heap.get? c = some o → c ≠ s.heap.objs.size := fun z => Nat.ne_of_lt (Heap.lt_size z)
    have I0 : Inv X pins σ (upd H s.heap.objs.size (.tup [.int (i : Int), x])) { s with heap := s.heap.push { cls := .type "tuple", data := .seq #[.int i s.toks, u1] }, toks := s.toks + 1 } :=
      I.laid (a := s.heap.objs.size) (o := .tup [.int (i : Int), x]) (t' := s.toks + 1) (fun b u z => Heap.get?_push_of_some _ z) (Nat.le_refl _) ⟨(by show 2 ≤ sizeLine; decide), [.int i s.toks, u1], .cons ⟨_, rfl⟩ (.cons ru1 .nil), _, Heap.get?_push_size _ rfl, rfl, _, rfl⟩
    have hnone : ∀ c ∈ [e, it], (upd H s.heap.objs.size (.tup [.int (i : Int), x])) c = none := fun c hc' => by
      have hne' : c ≠ s.heap.objs.size := by
        have hc'' : c = e ∨ c = it := by simpa using hc'
        rcases hc'' with rfl | rfl
        · exact lt se
        · obtain ⟨_, z, _⟩ := si; exact lt z
      rw [upd_ne hne']
      exact (hf c hc').1
    have hf' : ∀ c ∈ [e, it], FpOk X pins (upd H s.heap.objs.size (.tup [.int (i : Int), x])) c := fun c hc' => ⟨hnone c hc', (hf c hc').2⟩
    have kk1 : ∀ c o, c ∉ [e, it] → (s.heap.push { cls := .type "tuple", data := .seq #[.int i s.toks, u1] }).get? c = some o → h'.get? c = some o := fun c o hn z => by
      rcases Heap.get?_push_cases z with ⟨rfl, rfl⟩ | z'
      · exact b3
      · exact hk c o (fun q => hn (by simp [q])) (fun q => hn (by simp [q])) z'
    have I1 := I0.turnedL (h' := h') (t' := s.toks + 1) (ch := [e, it]) kk1 hf'
    refine ⟨_, rfl, wpAny_letOwnedTupleGo_enum b1 fun h2 c1 c2 => ?_⟩
    have I2 := I1.turnedL (h' := h2) (t' := s.toks + 1) (ch := [e]) (fun c o hn z => (c2.2 c (fun q => hn (by simp [q]))).trans z) (fun c hc' => hf' c (by rw [List.mem_singleton.mp hc']; simp))
    refine ⟨.ref s.heap.objs.size, _, I2, rfl, ⟨_, x, rfl, I.hok.fresh (Nat.le_refl _), rfl, fun xs' q => by rw [I.list_inj q hq]; exact hx⟩, ⟨⟨u1, ?_⟩, b2.at fun o z => (c2.2 it (Ne.symm hne)).trans z⟩, hnone⟩
    rw [show ((i + 1 : Nat) : Int) = (i : Int) + 1 by omega]
    exact c1
  done := by
    intro X hP hw hK hc i pins s σ H E I hf st hg
    subst hP hw hK
    obtain ⟨xs, hq, hx⟩ := hg
    obtain ⟨its, rv, p1, hz1⟩ := I.list hq
    have l1 := rv.length
    obtain ⟨⟨old, se⟩, si⟩ := st
    obtain ⟨f0, f1, f2, f3, f4, f5⟩ := hf it (by simp)
    exact wpAny_pyNext_enum_end (I.ok.hd hc) se si p1.isList (by simp; omega) fun h' eb => ⟨rfl, I.turned (t' := s.toks) (fun b o hb z => eb b o hb z) f0 f1 f3 f4 f5⟩
  self := fun _ _ _ _ _ st h => by
    obtain ⟨⟨old, h1⟩, _⟩ := st
    exact wpAny_pyIter_enum h1 h
def iEnum (K : PySem.W.Frag) (ta : TA) : TI := fun σ H R => ta σ H fun vs H1 => ∃ a, vs = [.ref a] ∧ (∃ xs, SqL K H1 a xs) ∧ R (Ite K a) H1
theorem pi_enum {X : Cx} {elts : List Expr} {kk : Nat} {tpos : Pos} {a : Expr} {ta : TA} {p pos : Pos} (hg : Gl X "enumerate") (hm : X.mg "enumerate" = none) (ha : PA X [a] ta) (hs : starEach [a] X.env = [(false, eval a X.env)] := by rfl) :
    PI X (.Tuple elts kk tpos) (.Call (.Name "enumerate" p) [a] [] pos) (iEnum X.K ta) := by
  intro pins s σ H R I h
  refine Call_ (ld_blt I hg hm PyProof.Rows.boot_enumerate (PyProof.Rows.callWith_type1 (thn (ha pos pins s σ H _ I h) fun us s1 ⟨vs, H1, I1, r1, q1⟩ => ?_) hs rfl))
  obtain ⟨l1, e, ⟨xs, hq1⟩, q⟩ := q1
  subst e
  cases r1 with
  | cons r rr =>
    cases rr
    cases r
    obtain ⟨its1, rv1, p1, hz1⟩ := I1.list hq1
    refine call_enumerate_list p1.isList fun h' he hit hsz hk => wpAny_pyIter_enum he ?_
    refine ⟨_, [s1.heap.objs.size + 1, s1.heap.objs.size], _, _, H1, rfl, I1.kept (t' := s1.toks) hk, turn_enum l1 _ _ (Nat.succ_ne_self _), ⟨⟨_, he⟩, hit⟩, fun c hc => ?_, q⟩
    have hc' : c = s1.heap.objs.size + 1 ∨ c = s1.heap.objs.size := by simpa using hc
    have hle : @LE.le Nat _ s1.heap.objs.size c := by
      rcases hc' with rfl | rfl
      · exact Nat.le_add_right _ _
      · exact Nat.le_refl _
    exact I1.fpOk hle (I1.hok.fresh hle)
theorem for_enum {K : PySem.W.Frag} {a : Addr} {xs : List V} {g : TG} {tb : TS} {D : Ends} {σ : St} {H : Hp} (Pv : Nat → St → Hp → Prop) (h0 : Pv 0 σ H) (hl : ∀ i σ H, i ≤ xs.length → Pv i σ H → SqL K H a xs)
    (hs : ∀ i x p σ H, xs[i]? = some x → Pv i σ H → H p = none → g (.ref p) σ (upd H p (.tup [.int (i : Int), x])) fun σ2 H2 => tb { D with nx := Pv (i + 1), ct := Pv (i + 1), bk := D.nx } σ2 H2) (hd : ∀ σ H, Pv xs.length σ H → D.nx σ H) :
    ∃ W : Nat → Nat → St → Hp → Prop, (∃ m, W 0 m σ H) ∧ ∀ i m σ H, W i m σ H →
      ((Ite K a).stop i H ∧ D.nx σ H) ∨ ((Ite K a).go i H ∧ ∃ N : St → Hp → Prop, (∀ σ' H', N σ' H' → ∃ m', m' < m ∧ W (i + 1) m' σ' H') ∧ ∀ x H', (Ite K a).yld i H x H' → g x σ H' fun σ2 H2 => tb { D with nx := N, ct := N, bk := D.nx } σ2 H2) := by
  refine ⟨fun i m σ H => m = xs.length - i ∧ i ≤ xs.length ∧ Pv i σ H, ⟨xs.length, by simp, Nat.zero_le _, h0⟩, ?_⟩
  rintro i m σ H ⟨rfl, hi, p⟩
  have q1 := hl i σ H hi p
  by_cases hlt : i < xs.length
  · refine .inr ⟨⟨xs, xs[i], q1, by simp [hlt]⟩, Pv (i + 1), fun σ' H' p' => ⟨xs.length - (i + 1), by omega, rfl, hlt, p'⟩, fun v H' y => ?_⟩
    obtain ⟨pp, x, rfl, hp, rfl, e1⟩ := y
    exact hs i x pp σ H (e1 xs q1) p hp
  · have e : i = xs.length := by omega
    subst e
    exact .inl ⟨⟨xs, q1, Nat.le_refl _⟩, hd σ H p⟩
end L2

set_option Elab.async false
set_option linter.all false
/-! The bench: ends, gates and what they are worth at many stands at once. -/
namespace L2
def sdN (m : Nat) (W : List Nat) (e : Nat) : Nat := if e % 2 = 1 then 2 ^ m - 1 - W.getD (e / 2) 0 else W.getD (e / 2) 0
def Wv (m : Nat) (sd : List Nat) (gs : List (Nat × Nat)) : List Nat := gs.foldl (fun W g => W ++ [sdN m W g.1 &&& sdN m W g.2]) (0 :: sd)
theorem Wv_snoc (m : Nat) (sd : List Nat) (gs : List (Nat × Nat)) (g : Nat × Nat) : Wv m sd (gs ++ [g]) = Wv m sd gs ++ [sdN m (Wv m sd gs) g.1 &&& sdN m (Wv m sd gs) g.2] := by
  unfold Wv
  rw [List.foldl_append]
  rfl
theorem snoc_ind {α : Type} {P : List α → Prop} (h0 : P []) (hs : ∀ l a, P l → P (l ++ [a])) : ∀ l, P l := by
  intro l
  have : ∀ r : List α, P r.reverse := by
    intro r
    induction r with
    | nil => exact h0
    | cons a r ih => rw [List.reverse_cons]; exact hs _ _ ih
  have h := this l.reverse
  rwa [List.reverse_reverse] at h
theorem Wv_len (m : Nat) (sd : List Nat) (gs : List (Nat × Nat)) : (Wv m sd gs).length = 1 + sd.length + gs.length := by
  induction gs using snoc_ind with
  | h0 => unfold Wv; simp; omega
  | hs gs g ih => rw [Wv_snoc, List.length_append, ih, List.length_append]; simp; omega
def Low (m : Nat) (W : List Nat) : Prop := ∀ v ∈ W, v < 2 ^ m
theorem getD_low {m : Nat} {W : List Nat} (h : Low m W) (i : Nat) : W.getD i 0 < 2 ^ m := by
  rw [List.getD_eq_getElem?_getD]
  cases e : W[i]? with
  | none => exact Nat.pow_pos (by decide)
  | some v => exact h v (List.mem_of_getElem? e)
theorem sdN_low {m : Nat} {W : List Nat} (h : Low m W) (e : Nat) : sdN m W e < 2 ^ m := by
  unfold sdN
  have h1 := getD_low h (e / 2)
  split
  · omega
  · exact h1
theorem Wv_low {m : Nat} {sd : List Nat} (h : Low m sd) (gs : List (Nat × Nat)) : Low m (Wv m sd gs) := by
  induction gs using snoc_ind with
  | h0 =>
    intro v hv
    rcases List.mem_cons.mp hv with rfl | h'
    · exact Nat.pow_pos (by decide)
    · exact h v h'
  | hs gs g ih =>
    rw [Wv_snoc]
    intro v hv
    rcases List.mem_append.mp hv with h' | h'
    · exact ih v h'
    · rw [List.mem_singleton.mp h']
      exact Nat.lt_of_le_of_lt Nat.and_le_left (sdN_low ih _)
theorem sdN_app {m : Nat} {W X : List Nat} {e : Nat} (h : e / 2 < W.length) : sdN m (W ++ X) e = sdN m W e := by
  unfold sdN
  rw [List.getD_eq_getElem?_getD, List.getD_eq_getElem?_getD, List.getElem?_append_left h]
theorem Wv_app (m : Nat) (sd : List Nat) (gs t : List (Nat × Nat)) : ∃ X, Wv m sd (gs ++ t) = Wv m sd gs ++ X := by
  induction t using snoc_ind with
  | h0 => exact ⟨[], by simp⟩
  | hs t g ih =>
    obtain ⟨X, e⟩ := ih
    rw [← List.append_assoc, Wv_snoc, e]
    exact ⟨X ++ [_], by rw [List.append_assoc]⟩
theorem sdN_grow {m : Nat} {sd : List Nat} {gs t : List (Nat × Nat)} {e : Nat} (h : e / 2 < 1 + sd.length + gs.length) : sdN m (Wv m sd (gs ++ t)) e = sdN m (Wv m sd gs) e := by
  obtain ⟨X, ex⟩ := Wv_app m sd gs t
  rw [ex]
  exact sdN_app (by rw [Wv_len]; exact h)
/-- each gate has ends of lesser knots, k of which are no gates -/
def GOk (k : Nat) (gs : List (Nat × Nat)) : Prop := ∀ i g, gs[i]? = some g → g.1 / 2 < k + i ∧ g.2 / 2 < k + i
theorem Wv_at {m : Nat} {sd : List Nat} {gs : List (Nat × Nat)} (h : GOk (1 + sd.length) gs) {i : Nat} {g : Nat × Nat} (hg : gs[i]? = some g) : sdN m (Wv m sd gs) (2 * (1 + sd.length + i)) = sdN m (Wv m sd gs) g.1 &&& sdN m (Wv m sd gs) g.2 := by
  obtain ⟨hi, e⟩ := List.getElem?_eq_some_iff.mp hg
  have hs : gs = (gs.take i ++ [g]) ++ gs.drop (i + 1) := by
    rw [← e, List.append_assoc]
    exact (List.take_append_drop i gs).symm.trans (by rw [List.drop_eq_getElem_cons hi]; rfl)
  have hl : (gs.take i).length = i := by rw [List.length_take]; omega
  obtain ⟨g1, g2⟩ := h i g hg
  have q : ∀ x, x / 2 < 1 + sd.length + (i + 1) → sdN m (Wv m sd gs) x = sdN m (Wv m sd (gs.take i ++ [g])) x := fun x hx => by
    have := @sdN_grow m sd (gs.take i ++ [g]) (gs.drop (i + 1)) x (by rw [List.length_append, hl]; exact hx)
    rw [← hs] at this
    exact this
  rw [q _ (by omega), q _ (by omega), q _ (by omega), Wv_snoc]
  rw [sdN_app (e := g.1) (by rw [Wv_len, hl]; exact g1), sdN_app (e := g.2) (by rw [Wv_len, hl]; exact g2)]
  have e1 : 2 * (1 + sd.length + i) % 2 = 0 := by omega
  have e2 : 2 * (1 + sd.length + i) / 2 = 1 + sd.length + i := by omega
  unfold sdN
  rw [if_neg (by omega), e2, List.getD_eq_getElem?_getD, List.getElem?_append_right (by rw [Wv_len, hl]; omega), Wv_len, hl, Nat.sub_self]
  rfl
theorem x1_div (e : Nat) : (e ^^^ 1) / 2 = e / 2 := by
  rw [Nat.xor_div_two]
  simp
theorem x1_mod (e : Nat) : (e ^^^ 1) % 2 = 1 - e % 2 := by
  have h1 : (e ^^^ 1) % 2 = 1 ↔ ¬ (e % 2 = 1 ↔ 1 % 2 = 1) := Nat.xor_mod_two_eq_one
  have := Nat.mod_lt e (show 0 < 2 by decide)
  have := Nat.mod_lt (e ^^^ 1) (show 0 < 2 by decide)
  by_cases h : e % 2 = 1
  · have : ¬ (e ^^^ 1) % 2 = 1 := fun q => (h1.mp q) ⟨fun _ => rfl, fun _ => h⟩
    omega
  · have : (e ^^^ 1) % 2 = 1 := h1.mpr fun q => h (q.mpr rfl)
    omega
theorem sdN_flip {m : Nat} {W : List Nat} (h : Low m W) (e : Nat) : sdN m W (e ^^^ 1) = 2 ^ m - 1 - sdN m W e := by
  unfold sdN
  have hv := getD_low h (e / 2)
  rw [x1_div, x1_mod]
  have := Nat.mod_lt e (show 0 < 2 by decide)
  by_cases c : e % 2 = 1
  · rw [if_neg (by omega), if_pos c]; omega
  · rw [if_pos (by omega), if_neg c]
/-! bits -/
theorem tb_not {m x i : Nat} (h : x < 2 ^ m) : (2 ^ m - 1 - x).testBit i = (decide (i < m) && !x.testBit i) := by
  rw [show 2 ^ m - 1 - x = 2 ^ m - (x + 1) by omega]
  exact Nat.testBit_two_pow_sub_succ h i
theorem tb_hi {m x i : Nat} (h : x < 2 ^ m) (hi : ¬ i < m) : x.testBit i = false := Nat.testBit_lt_two_pow (Nat.lt_of_lt_of_le h (Nat.pow_le_pow_right (by decide) (by omega)))
theorem b_and_not {m x : Nat} (h : x < 2 ^ m) : x &&& (2 ^ m - 1 - x) = 0 := by
  refine Nat.eq_of_testBit_eq fun i => ?_
  rw [Nat.testBit_and, tb_not h, Nat.zero_testBit]
  cases x.testBit i <;> simp
theorem b_ones_and {m x : Nat} (h : x < 2 ^ m) : (2 ^ m - 1) &&& x = x := by
  refine Nat.eq_of_testBit_eq fun i => ?_
  rw [Nat.testBit_and, Nat.testBit_two_pow_sub_one]
  by_cases hi : i < m
  · simp [hi]
  · simp [hi, tb_hi h hi]
theorem b_or {m x y : Nat} (hx : x < 2 ^ m) (hy : y < 2 ^ m) : 2 ^ m - 1 - ((2 ^ m - 1 - x) &&& (2 ^ m - 1 - y)) = x ||| y := by
  refine Nat.eq_of_testBit_eq fun i => ?_
  have hp : 0 < 2 ^ m := Nat.pow_pos (by decide)
  rw [tb_not (Nat.lt_of_le_of_lt Nat.and_le_left (by omega)), Nat.testBit_and, tb_not hx, tb_not hy, Nat.testBit_or]
  by_cases hi : i < m
  · simp [hi]
  · simp [hi, tb_hi hx hi, tb_hi hy hi]
theorem b_xor {m x y : Nat} (hx : x < 2 ^ m) (hy : y < 2 ^ m) : (x ||| y) &&& (2 ^ m - 1 - (x &&& y)) = x ^^^ y := by
  refine Nat.eq_of_testBit_eq fun i => ?_
  rw [Nat.testBit_and, Nat.testBit_or, tb_not (Nat.lt_of_le_of_lt Nat.and_le_left hx), Nat.testBit_and, Nat.testBit_xor]
  by_cases hi : i < m
  · simp only [hi, decide_true, Bool.true_and]
    cases x.testBit i <;> cases y.testBit i <;> rfl
  · simp [hi, tb_hi hx hi, tb_hi hy hi]
theorem b_mux {m c a : Nat} (hc : c < 2 ^ m) (ha : a < 2 ^ m) : (c &&& a) ||| ((2 ^ m - 1 - c) &&& a) = a := by
  refine Nat.eq_of_testBit_eq fun i => ?_
  rw [Nat.testBit_or, Nat.testBit_and, Nat.testBit_and, tb_not hc]
  by_cases hi : i < m
  · simp only [hi, decide_true, Bool.true_and]
    cases c.testBit i <;> cases a.testBit i <;> rfl
  · simp [hi, tb_hi ha hi]
def vAnd (a b : Nat) : Nat → List Nat → Nat := fun m W => sdN m W a &&& sdN m W b
def vOr (a b : Nat) : Nat → List Nat → Nat := fun m W => sdN m W a ||| sdN m W b
def vXor (a b : Nat) : Nat → List Nat → Nat := fun m W => sdN m W a ^^^ sdN m W b
def vMux (c a b : Nat) : Nat → List Nat → Nat := fun m W => (sdN m W c &&& sdN m W a) ||| ((2 ^ m - 1 - sdN m W c) &&& sdN m W b)
/-- which end tells that both are 1, where no gate is due -/
def noGate (a b : Nat) : Option Nat := if min a b = 0 ∨ min a b ^^^ 1 = max a b then some 0 else if min a b = 1 ∨ min a b = max a b then some (max a b) else none
theorem mm_cases (a b : Nat) : (min a b = a ∧ max a b = b) ∨ (min a b = b ∧ max a b = a) := by omega
theorem vAnd_mm (a b : Nat) : vAnd (min a b) (max a b) = vAnd a b := by
  funext m W
  unfold vAnd
  rcases mm_cases a b with ⟨h1, h2⟩ | ⟨h1, h2⟩ <;> rw [h1, h2]
  exact Nat.and_comm _ _
end L2

set_option Elab.async false
set_option linter.all false
set_option maxRecDepth 100000
/-! The bench as it stands: its fields, its lists, its dict of known gates. -/
namespace L2
open PySem
/-- where a bench's things stand -/
structure Ba where
  b : Addr
  dx : Addr
  pf : Addr
  pb : Addr
  pd : Addr
  pg : Addr
  pk : Addr
  pn : Addr
def bFs (n k : Nat) (B : Ba) : List (Str × V) := [(("ins" : Str), .int (n : Int)), ("knots", .int (k : Int)), ("firsts", .ref B.pf), ("box_knots", .ref B.pb), ("drivers", .ref B.pd), ("gates", .ref B.pg), ("gate_knots", .ref B.pk), ("known_gates", .ref B.pn)]
theorem bFs_len {n k : Nat} {B : Ba} : (bFs n k B).length < 1000 := by show 8 < 1000; decide
theorem bFs_ins {n k : Nat} {B : Ba} : (bFs n k B).lookup ("ins" : Str) = some (.int (n : Int)) := rfl
theorem bFs_knots {n k : Nat} {B : Ba} : (bFs n k B).lookup ("knots" : Str) = some (.int (k : Int)) := rfl
theorem bFs_firsts {n k : Nat} {B : Ba} : (bFs n k B).lookup ("firsts" : Str) = some (.ref B.pf) := rfl
theorem bFs_box {n k : Nat} {B : Ba} : (bFs n k B).lookup ("box_knots" : Str) = some (.ref B.pb) := rfl
theorem bFs_dri {n k : Nat} {B : Ba} : (bFs n k B).lookup ("drivers" : Str) = some (.ref B.pd) := rfl
theorem bFs_gates {n k : Nat} {B : Ba} : (bFs n k B).lookup ("gates" : Str) = some (.ref B.pg) := rfl
theorem bFs_gk {n k : Nat} {B : Ba} : (bFs n k B).lookup ("gate_knots" : Str) = some (.ref B.pk) := rfl
theorem bFs_kn {n k : Nat} {B : Ba} : (bFs n k B).lookup ("known_gates" : Str) = some (.ref B.pn) := rfl
theorem bFs_put {n k k' : Nat} {B : Ba} : putF ("knots" : Str) (.int (k' : Int)) (bFs n k B) = bFs n k' B := rfl
theorem bFs_no {n k : Nat} {B : Ba} {m : Str} (h : m = "both" ∨ m = "either" ∨ m = "odd" ∨ m = "choice" ∨ m = "new_knot" ∨ m = "into" ∨ m = "work" ∨ m = "box") : (bFs n k B).lookup m = none := by
  rcases h with rfl | rfl | rfl | rfl | rfl | rfl | rfl | rfl <;> rfl
def ci (g : Nat × Nat) : Int × Int := ((g.1 : Int), (g.2 : Int))
def gkey (g : Nat × Nat) : List Key := [.inl (g.1 : Int), .inl (g.2 : Int)]
theorem gkey_inj {g u : Nat × Nat} (h : gkey g = gkey u) : g = u := by
  unfold gkey at h
  injection h with h1 h2
  injection h2 with h2 _
  have e1 := Sum.inl.inj h1
  have e2 := Sum.inl.inj h2
  exact Prod.ext (by omega) (by omega)
/-- none of a bench's own -/
def Off (B : Ba) (a : Addr) : Prop := a ≠ B.b ∧ a ≠ B.pf ∧ a ≠ B.pb ∧ a ≠ B.pd ∧ a ≠ B.pg ∧ a ≠ B.pk ∧ a ≠ B.pn
def nV (L : List Nat) : List V := L.map fun k : Nat => V.int (k : Int)
theorem nV_len {L : List Nat} : (nV L).length = L.length := by unfold nV; simp
theorem nV_get {L : List Nat} {i : Nat} (h : i < L.length) : (nV L)[i]? = some (.int (L[i] : Int)) := by unfold nV; rw [List.getElem?_map, List.getElem?_eq_getElem h]; rfl
theorem nV_eq (L : List Nat) : nV L = (L.map fun k => ((k : Nat) : Int)).map V.int := by unfold nV; rw [List.map_map]; rfl
theorem x1i (x : Nat) : Builtin.bitXor (x : Int) 1 = ((x ^^^ 1 : Nat) : Int) := xor_nat x 1
theorem comp_tup_map {K : PySem.W.Frag} {a : Addr} {S : V → St} {te : TE} {H : Hp} {Fin : List V → Hp → Prop} {xs : List V} (f : V → V) (hS : SqT K H a xs) (hz : xs.length ≤ 100000) (hs : ∀ x ∈ xs, ∀ N : V → Hp → Prop, N (f x) H → te (S x) H N) (hd : Fin (xs.map f) H) : CompW (Itt K a) S tYes te H Fin := by
  refine comp_tup (xs := xs) (fun i ys H' => ys = (xs.take i).map f ∧ H = H') ⟨rfl, rfl⟩ ?_ ?_ ?_ ?_
  · rintro i ys H' _ ⟨_, rfl⟩
    exact hS
  · rintro i ys H' hi ⟨rfl, _⟩
    rw [List.length_map, List.length_take]
    exact smallL (by omega)
  · rintro i x ys H' hx ⟨rfl, rfl⟩
    obtain ⟨hi, he⟩ := List.getElem?_eq_some_iff.mp hx
    unfold tYes
    dsimp only
    rw [if_pos rfl]
    refine hs x (he ▸ List.getElem_mem hi) _ ⟨?_, rfl⟩
    rw [List.take_succ_eq_append_getElem hi, List.map_append, he]
    rfl
  · rintro ys H' ⟨rfl, rfl⟩
    rw [List.take_length]
    exact hd
theorem all_true (n : Nat) : (List.replicate n true).all id = true := by
  rw [List.all_eq_true]
  intro b hb
  rw [(List.mem_replicate.mp hb).2]
  rfl
theorem map_true (xs : List V) : xs.map (fun _ => V.bl true) = (List.replicate xs.length true).map V.bl := by
  rw [List.map_const', List.map_replicate]
/-- a list or a tuple, walked -/
theorem pi_or {X : Cx} {tg it : Expr} {w1 w2 : TI} (h1 : PI X tg it w1) (h2 : PI X tg it w2) : PI X tg it (fun σ H R => w1 σ H R ∨ w2 σ H R) := by
  intro pins s σ H R I h
  rcases h with h | h
  · exact h1 pins s σ H R I h
  · exact h2 pins s σ H R I h
theorem min_i (x y : Nat) : (if ((y : Nat) : Int) < ((x : Nat) : Int) then ((y : Nat) : Int) else ((x : Nat) : Int)) = ((min x y : Nat) : Int) := by split <;> omega
theorem max_i (x y : Nat) : (if ((y : Nat) : Int) > ((x : Nat) : Int) then ((y : Nat) : Int) else ((x : Nat) : Int)) = ((max x y : Nat) : Int) := by split <;> omega
end L2

set_option Elab.async false
set_option linter.all false
set_option maxRecDepth 100000
/-! Rows compared: the carry, and what it says of the numbers; an end's worth behind each deed. -/
namespace L2
open PySem
end L2

set_option Elab.async false
set_option linter.all false
set_option maxRecDepth 100000
/-! Rows summed: what the row of sums says of the numbers. -/
namespace L2
end L2

set_option Elab.async false
set_option linter.all false
set_option maxRecDepth 100000
/-! Some lists changed in place, all else as it was; a row of ends and what it is worth. -/
namespace L2
open PySem
def Cl (rs : List Addr) (H H' : Hp) : Prop := (∀ a o, a ∉ rs → H a = some o → H' a = some o) ∧ (∀ r ∈ rs, ∃ xs, H r = some (.lst xs)) ∧ ∀ r ∈ rs, ∃ xs, H' r = some (.lst xs)
theorem Cl.refl {rs : List Addr} {H : Hp} (h : ∀ r ∈ rs, ∃ xs, H r = some (.lst xs)) : Cl rs H H := ⟨fun _ _ _ e => e, h, h⟩
theorem Cl.put {rs : List Addr} {H H' : Hp} (c : Cl rs H H') {r : Addr} (hr : r ∈ rs) (ys : List V) : Cl rs H (upd H' r (.lst ys)) := by
  refine ⟨fun a o na e => ?_, c.2.1, fun q hq => ?_⟩
  · rw [upd_ne (show a ≠ r from fun z => na (by rw [z]; exact hr))]
    exact c.1 a o na e
  · by_cases h : q = r
    · subst h
      exact ⟨ys, upd_same⟩
    · rw [upd_ne h]
      exact c.2.2 q hq
theorem Cl.one {p : Addr} {H : Hp} {xs : List V} (h : H p = some (.lst xs)) (ys : List V) : Cl [p] H (upd H p (.lst ys)) :=
  (Cl.refl fun r hr => by rw [List.mem_singleton.mp hr]; exact ⟨xs, h⟩).put List.mem_cons_self ys
theorem Cl.keepT {rs : List Addr} {H H' : Hp} (c : Cl rs H H') : KeepT H H' := fun a xs e => c.1 a _ (fun m => by
  obtain ⟨ys, h⟩ := c.2.1 a m
  rw [h] at e
  cases e) e
theorem nV_app {A B : List Nat} : nV (A ++ B) = nV A ++ nV B := by unfold nV; rw [List.map_append]
end L2

set_option Elab.async false
set_option linter.all false
set_option maxRecDepth 100000
/-! A list cut by steps of two; zip in a comprehension; ends chosen, and looked up in a table. -/
namespace L2
open PySem PySem.Spec PyProof.Rows
theorem comp_zip {K : PySem.W.Frag} {n : Nat} {c : St} {g : TG} {tt : TT} {te : TE} {H : Hp} {Fin : List V → Hp → Prop} {a b : Addr} {xs us : List V} (Pv : Nat → List V → Hp → Prop) (h0 : Pv 0 [] H) (hl : ∀ i ys H, i ≤ xs.length → Pv i ys H → SqL K H a xs ∧ SqL K H b us) (he : xs.length = us.length) (hz : ∀ i ys H, i < xs.length → Pv i ys H → ys.length < sizeLine)
    (hs : ∀ i x y p ys H (os : St), os.length = n → xs[i]? = some x → us[i]? = some y → Pv i ys H → H p = none → g (.ref p) (os ++ c) (upd H p (.tup [x, y])) fun σ2 H2 => tt σ2 H2 fun b H3 => if b = true then te σ2 H3 fun y H4 => Pv (i + 1) (ys ++ [y]) H4 else Pv (i + 1) ys H3)
    (hd : ∀ ys H, Pv xs.length ys H → Fin ys H) : CompG (Itz K a b) n c g tt te H Fin := by
  refine ⟨fun i m ys H => m = xs.length - i ∧ i ≤ xs.length ∧ Pv i ys H, ⟨xs.length, by simp, Nat.zero_le _, h0⟩, ?_⟩
  rintro i m ys H ⟨rfl, hi, p⟩
  obtain ⟨q1, q2⟩ := hl i ys H hi p
  by_cases hlt : i < xs.length
  · have hlt2 : i < us.length := by omega
    refine .inr ⟨⟨xs, us, xs[i], us[i], q1, q2, by simp [hlt], by simp [hlt2]⟩, hz i ys H hlt p, Pv (i + 1), fun ys' H' p' => ⟨xs.length - (i + 1), by omega, rfl, hlt, p'⟩, fun v H' y os hos => ?_⟩
    obtain ⟨pp, x, y, rfl, hp, rfl, e1, e2⟩ := y
    exact hs i x y pp ys H os hos (e1 xs q1) (e2 us q2) p hp
  · have e : i = xs.length := by omega
    subst e
    exact .inl ⟨⟨xs, us, q1, q2, .inl (Nat.le_refl _)⟩, hd ys H p⟩
section
end
/-- the one where c is 1, the other where it is 0 -/
def muxV (m c a b : Nat) : Nat := (c &&& a) ||| ((2 ^ m - 1 - c) &&& b)
end L2

set_option Elab.async false
set_option linter.all false
set_option maxRecDepth 100000
/-! The bench with boxes anywhere among its gates: what is made, in order, none for a box. -/
namespace L2
open PySem
abbrev Cn := Option (Nat × Nat)
def Sw (m : Nat) (S : Nat → Nat) : Prop := ∀ i, S i < 2 ^ m
def wst (m : Nat) (S : Nat → Nat) (W : List Nat) (c : Cn) : Nat := match c with | none => S W.length | some g => sdN m W g.1 &&& sdN m W g.2
def Wx (m : Nat) (sd : List Nat) (S : Nat → Nat) (gs : List Cn) : List Nat := gs.foldl (fun W c => W ++ [wst m S W c]) (0 :: sd)
theorem Wx_snoc (m : Nat) (sd : List Nat) (S : Nat → Nat) (gs : List Cn) (g : Cn) : Wx m sd S (gs ++ [g]) = Wx m sd S gs ++ [wst m S (Wx m sd S gs) g] := by
  unfold Wx
  rw [List.foldl_append]
  rfl
theorem Wx_len (m : Nat) (sd : List Nat) (S : Nat → Nat) (gs : List Cn) : (Wx m sd S gs).length = 1 + sd.length + gs.length := by
  induction gs using snoc_ind with
  | h0 => unfold Wx; simp; omega
  | hs gs g ih => rw [Wx_snoc, List.length_append, ih, List.length_append]; simp; omega
theorem Wx_low {m : Nat} {sd : List Nat} {S : Nat → Nat} (h : Low m sd) (hS : Sw m S) (gs : List Cn) : Low m (Wx m sd S gs) := by
  induction gs using snoc_ind with
  | h0 =>
    intro v hv
    rcases List.mem_cons.mp hv with rfl | h'
    · exact Nat.pow_pos (by decide)
    · exact h v h'
  | hs gs g ih =>
    rw [Wx_snoc]
    intro v hv
    rcases List.mem_append.mp hv with h' | h'
    · exact ih v h'
    · rw [List.mem_singleton.mp h']
      cases g with
      | none => exact hS _
      | some g => exact Nat.lt_of_le_of_lt Nat.and_le_left (sdN_low ih _)
theorem Wx_app (m : Nat) (sd : List Nat) (S : Nat → Nat) (gs t : List Cn) : ∃ X, Wx m sd S (gs ++ t) = Wx m sd S gs ++ X := by
  induction t using snoc_ind with
  | h0 => exact ⟨[], by simp⟩
  | hs t g ih =>
    obtain ⟨X, e⟩ := ih
    rw [← List.append_assoc, Wx_snoc, e]
    exact ⟨X ++ [_], by rw [List.append_assoc]⟩
theorem sdo_grow {m : Nat} {sd : List Nat} {S : Nat → Nat} {gs t : List Cn} {e : Nat} (h : e / 2 < 1 + sd.length + gs.length) : sdN m (Wx m sd S (gs ++ t)) e = sdN m (Wx m sd S gs) e := by
  obtain ⟨X, ex⟩ := Wx_app m sd S gs t
  rw [ex]
  exact sdN_app (by rw [Wx_len]; exact h)
def COk (k : Nat) (gs : List Cn) : Prop := ∀ i g, gs[i]? = some (some g) → g.1 / 2 < k + i ∧ g.2 / 2 < k + i
theorem COk.nil {k : Nat} : COk k [] := fun i g h => nomatch h
theorem COk.snoc {k : Nat} {gs : List Cn} {g : Nat × Nat} (h : COk k gs) (h1 : g.1 / 2 < k + gs.length) (h2 : g.2 / 2 < k + gs.length) : COk k (gs ++ [some g]) := fun i u hu => by
  by_cases hi : i < gs.length
  · rw [List.getElem?_append_left hi] at hu
    exact h i u hu
  · rw [List.getElem?_append_right (by omega)] at hu
    have : i = gs.length := by
      have := (List.getElem?_eq_some_iff.mp hu).1
      simp at this
      omega
    subst this
    rw [Nat.sub_self] at hu
    cases hu
    exact ⟨h1, h2⟩
theorem COk.box {k : Nat} {gs : List Cn} (h : COk k gs) : COk k (gs ++ [none]) := fun i u hu => by
  by_cases hi : i < gs.length
  · rw [List.getElem?_append_left hi] at hu
    exact h i u hu
  · rw [List.getElem?_append_right (by omega)] at hu
    have : i = gs.length := by
      have := (List.getElem?_eq_some_iff.mp hu).1
      simp at this
      omega
    subst this
    rw [Nat.sub_self] at hu
    cases hu
/-- what the j-th made is worth -/
theorem Wx_get {m : Nat} {sd : List Nat} {S : Nat → Nat} {gs : List Cn} {i : Nat} {c : Cn} (hc : gs[i]? = some c) : (Wx m sd S gs).getD (1 + sd.length + i) 0 = wst m S (Wx m sd S (gs.take i)) c := by
  obtain ⟨hi, e⟩ := List.getElem?_eq_some_iff.mp hc
  have hs : gs = (gs.take i ++ [c]) ++ gs.drop (i + 1) := by
    rw [← e, List.append_assoc]
    exact (List.take_append_drop i gs).symm.trans (by rw [List.drop_eq_getElem_cons hi]; rfl)
  have hl : (gs.take i).length = i := by rw [List.length_take]; omega
  obtain ⟨X, ex⟩ := Wx_app m sd S (gs.take i ++ [c]) (gs.drop (i + 1))
  rw [← hs, Wx_snoc] at ex
  rw [ex, List.getD_eq_getElem?_getD, List.getElem?_append_left (by rw [List.length_append, Wx_len, hl]; simp), List.getElem?_append_right (by rw [Wx_len, hl]; omega), Wx_len, hl, Nat.sub_self]
  rfl
theorem Wx_take {m : Nat} {sd : List Nat} {S : Nat → Nat} {gs : List Cn} {i e : Nat} (hi : i ≤ gs.length) (h : e / 2 < 1 + sd.length + i) : sdN m (Wx m sd S (gs.take i)) e = sdN m (Wx m sd S gs) e := by
  have := @sdo_grow m sd S (gs.take i) (gs.drop i) e (by rw [List.length_take]; omega)
  rw [List.take_append_drop] at this
  exact this.symm
theorem sd_even {m : Nat} {W : List Nat} {k : Nat} : sdN m W (2 * k) = W.getD k 0 := by
  unfold sdN
  rw [if_neg (by omega), show 2 * k / 2 = k by omega]
theorem Wx_at {m : Nat} {sd : List Nat} {S : Nat → Nat} {gs : List Cn} (h : COk (1 + sd.length) gs) {i : Nat} {g : Nat × Nat} (hg : gs[i]? = some (some g)) : sdN m (Wx m sd S gs) (2 * (1 + sd.length + i)) = sdN m (Wx m sd S gs) g.1 &&& sdN m (Wx m sd S gs) g.2 := by
  have hi := (List.getElem?_eq_some_iff.mp hg).1
  obtain ⟨g1, g2⟩ := h i g hg
  rw [sd_even, Wx_get hg]
  show sdN m (Wx m sd S (gs.take i)) g.1 &&& sdN m (Wx m sd S (gs.take i)) g.2 = _
  rw [Wx_take (by omega) g1, Wx_take (by omega) g2]
theorem Wx_bx {m : Nat} {sd : List Nat} {S : Nat → Nat} {gs : List Cn} {i : Nat} (hg : gs[i]? = some none) : sdN m (Wx m sd S gs) (2 * (1 + sd.length + i)) = S (1 + sd.length + i) := by
  have hi := (List.getElem?_eq_some_iff.mp hg).1
  rw [sd_even, Wx_get hg]
  show S (Wx m sd S (gs.take i)).length = _
  rw [Wx_len, List.length_take, Nat.min_eq_left (by omega)]
/-- an end that was told: at most c gates more, and what it is worth over the worths so far -/
structure Mdo (k c : Nat) (gs gs' : List Cn) (e : Nat) (F : Nat → List Nat → Nat) : Prop where
  grow : ∃ t : List (Nat × Nat), gs' = gs ++ t.map some ∧ t.length ≤ c
  ok : COk k gs'
  lt : e / 2 < k + gs'.length
  val : ∀ m sd S, 1 + sd.length = k → Low m sd → Sw m S → sdN m (Wx m sd S gs') e = F m (Wx m sd S gs)
theorem Mdo.here {k : Nat} {gs : List Cn} {e : Nat} {F : Nat → List Nat → Nat} (h : COk k gs) (hl : e / 2 < k + gs.length) (hv : ∀ m sd S, 1 + sd.length = k → Low m sd → Sw m S → sdN m (Wx m sd S gs) e = F m (Wx m sd S gs)) : Mdo k 0 gs gs e F :=
  ⟨⟨[], by simp, Nat.le_refl _⟩, h, hl, hv⟩
theorem Mdo.up {k c d : Nat} {gs gs' : List Cn} {e : Nat} {F : Nat → List Nat → Nat} (h : Mdo k c gs gs' e F) (l : c ≤ d) : Mdo k d gs gs' e F := by
  obtain ⟨⟨t, e1, e2⟩, h2, h3, h4⟩ := h
  exact ⟨⟨t, e1, Nat.le_trans e2 l⟩, h2, h3, h4⟩
theorem Mdo.len {k c : Nat} {gs gs' : List Cn} {e : Nat} {F : Nat → List Nat → Nat} (h : Mdo k c gs gs' e F) : gs.length ≤ gs'.length ∧ gs'.length ≤ gs.length + c := by
  obtain ⟨t, e1, e2⟩ := h.grow
  rw [e1, List.length_append, List.length_map]
  omega
/-- an end told before is worth what it was -/
theorem Mdo.old {k c : Nat} {gs gs' : List Cn} {e : Nat} {F : Nat → List Nat → Nat} (h : Mdo k c gs gs' e F) {m : Nat} {sd : List Nat} {S : Nat → Nat} (hk : 1 + sd.length = k) {x : Nat} (hx : x / 2 < k + gs.length) : sdN m (Wx m sd S gs') x = sdN m (Wx m sd S gs) x := by
  obtain ⟨t, e1, _⟩ := h.grow
  rw [e1]
  exact sdo_grow (by omega)
theorem Mdo.flip {k c : Nat} {gs gs' : List Cn} {e : Nat} {F : Nat → List Nat → Nat} (h : Mdo k c gs gs' e F) : Mdo k c gs gs' (e ^^^ 1) (fun m W => 2 ^ m - 1 - F m W) :=
  ⟨h.grow, h.ok, by rw [x1_div]; exact h.lt, fun m sd S hk hl hS => by rw [sdN_flip (Wx_low hl hS _), h.val m sd S hk hl hS]⟩
theorem Mdo.seq {k c d : Nat} {gs gs1 gs2 : List Cn} {e1 e2 : Nat} {F : Nat → List Nat → Nat} {G G' : Nat → List Nat → Nat} (h1 : Mdo k c gs gs1 e1 F) (h2 : Mdo k d gs1 gs2 e2 G) (hG : ∀ m sd S, 1 + sd.length = k → Low m sd → Sw m S → G m (Wx m sd S gs1) = G' m (Wx m sd S gs)) : Mdo k (c + d) gs gs2 e2 G' := by
  obtain ⟨t, a1, a2⟩ := h1.grow
  obtain ⟨u, b1, b2⟩ := h2.grow
  refine ⟨⟨t ++ u, by rw [b1, a1, List.map_append, List.append_assoc], by rw [List.length_append]; omega⟩, h2.ok, h2.lt, fun m sd S hk hl hS => ?_⟩
  rw [h2.val m sd S hk hl hS, hG m sd S hk hl hS]
theorem both_noneO {k : Nat} {gs : List Cn} {a b e : Nat} (ok : COk k gs) (hk : 0 < k) (ha : a / 2 < k + gs.length) (hb : b / 2 < k + gs.length) (h : noGate a b = some e) : Mdo k 0 gs gs e (vAnd a b) := by
  have hlo : min a b / 2 < k + gs.length := by rcases mm_cases a b with ⟨h1, h2⟩ | ⟨h1, h2⟩ <;> rw [h1] <;> assumption
  have hhi : max a b / 2 < k + gs.length := by rcases mm_cases a b with ⟨h1, h2⟩ | ⟨h1, h2⟩ <;> rw [h2] <;> assumption
  rw [← vAnd_mm a b]
  unfold noGate at h
  generalize min a b = lo at *
  generalize max a b = hi at *
  have z0 : ∀ m sd S, sdN m (Wx m sd S gs) 0 = 0 := fun m sd S => by
    have hg := @sdo_grow m sd S [] gs 0 (by simp; omega)
    rw [List.nil_append] at hg
    rw [hg]
    rfl
  by_cases c1 : lo = 0 ∨ lo ^^^ 1 = hi
  · rw [if_pos c1] at h
    cases h
    refine Mdo.here ok (by omega) fun m sd S hs hl hS => ?_
    rw [z0]
    unfold vAnd
    rcases c1 with c | c
    · rw [c, z0, Nat.zero_and]
    · rw [← c, sdN_flip (Wx_low hl hS _), b_and_not (sdN_low (Wx_low hl hS _) _)]
  · rw [if_neg c1] at h
    by_cases c2 : lo = 1 ∨ lo = hi
    · rw [if_pos c2] at h
      cases h
      refine Mdo.here ok hhi fun m sd S hs hl hS => ?_
      unfold vAnd
      rcases c2 with c | c
      · have z1 : sdN m (Wx m sd S gs) 1 = 2 ^ m - 1 := by
          have := sdN_flip (Wx_low hl hS gs) 0
          rw [z0] at this
          exact this
        rw [c, z1, b_ones_and (sdN_low (Wx_low hl hS _) _)]
      · rw [c, Nat.and_self]
    · rw [if_neg c2] at h
      cases h
theorem both_knownO {k : Nat} {gs : List Cn} {a b i : Nat} (ok : COk k gs) (hg : gs[i]? = some (some (min a b, max a b))) : Mdo k 0 gs gs (2 * (k + i)) (vAnd a b) := by
  have hi := (List.getElem?_eq_some_iff.mp hg).1
  refine Mdo.here ok (by omega) fun m sd S hs hl hS => ?_
  subst hs
  rw [Wx_at ok hg, ← vAnd_mm a b]
  rfl
theorem both_newO {k : Nat} {gs : List Cn} {a b : Nat} (ok : COk k gs) (ha : a / 2 < k + gs.length) (hb : b / 2 < k + gs.length) : Mdo k 1 gs (gs ++ [some (min a b, max a b)]) (2 * (k + gs.length)) (vAnd a b) := by
  have hlo : min a b / 2 < k + gs.length := by rcases mm_cases a b with ⟨h1, h2⟩ | ⟨h1, h2⟩ <;> rw [h1] <;> assumption
  have hhi : max a b / 2 < k + gs.length := by rcases mm_cases a b with ⟨h1, h2⟩ | ⟨h1, h2⟩ <;> rw [h2] <;> assumption
  have ok' := ok.snoc (g := (min a b, max a b)) hlo hhi
  refine ⟨⟨[(min a b, max a b)], rfl, Nat.le_refl _⟩, ok', by rw [List.length_append, List.length_singleton]; omega, fun m sd S hs hl hS => ?_⟩
  subst hs
  rw [Wx_at ok' (i := gs.length) (g := (min a b, max a b)) (by simp), sdo_grow hlo, sdo_grow hhi, ← vAnd_mm a b]
  rfl
theorem either_madeO {k c : Nat} {gs gs' : List Cn} {a b e : Nat} (h : Mdo k c gs gs' e (vAnd (a ^^^ 1) (b ^^^ 1))) : Mdo k c gs gs' (e ^^^ 1) (vOr a b) := by
  obtain ⟨h1, h2, h3, h4⟩ := h.flip
  refine ⟨h1, h2, h3, fun m sd S hk hl hS => ?_⟩
  rw [h4 m sd S hk hl hS]
  have lo := Wx_low hl hS gs
  unfold vAnd vOr
  rw [sdN_flip lo, sdN_flip lo, b_or (sdN_low lo _) (sdN_low lo _)]
theorem odd_madeO {k : Nat} {gs g1 g2 g3 : List Cn} {a b e1 e2 e3 : Nat} (ha : a / 2 < k + gs.length) (hb : b / 2 < k + gs.length) (h1 : Mdo k 1 gs g1 e1 (vOr a b)) (h2 : Mdo k 1 g1 g2 e2 (vAnd a b)) (h3 : Mdo k 1 g2 g3 e3 (vAnd e1 (e2 ^^^ 1))) : Mdo k 3 gs g3 e3 (vXor a b) := by
  have l1 := h1.len
  refine (h1.seq h2 (G' := vAnd a b) fun m sd S hk hl hS => ?_).seq h3 fun m sd S hk hl hS => ?_
  · unfold vAnd
    rw [h1.old hk ha, h1.old hk hb]
  · have lo := Wx_low hl hS gs
    show sdN m (Wx m sd S g2) e1 &&& sdN m (Wx m sd S g2) (e2 ^^^ 1) = _
    rw [sdN_flip (Wx_low hl hS g2), h2.val m sd S hk hl hS, h2.old hk h1.lt, h1.val m sd S hk hl hS]
    unfold vAnd vOr vXor
    rw [h1.old hk ha, h1.old hk hb, b_xor (sdN_low lo _) (sdN_low lo _)]
theorem choice_sameO {k : Nat} {gs : List Cn} {c a : Nat} (ok : COk k gs) (ha : a / 2 < k + gs.length) : Mdo k 0 gs gs a (vMux c a a) :=
  Mdo.here ok ha fun m sd S hk hl hS => (b_mux (sdN_low (Wx_low hl hS gs) _) (sdN_low (Wx_low hl hS gs) _)).symm
theorem choice_madeO {k : Nat} {gs g1 g2 g3 : List Cn} {c a b e1 e2 e3 : Nat} (hc : c / 2 < k + gs.length) (hb : b / 2 < k + gs.length) (h1 : Mdo k 1 gs g1 e1 (vAnd c a)) (h2 : Mdo k 1 g1 g2 e2 (vAnd (c ^^^ 1) b)) (h3 : Mdo k 1 g2 g3 e3 (vOr e1 e2)) : Mdo k 3 gs g3 e3 (vMux c a b) := by
  refine (h1.seq h2 (G' := vAnd (c ^^^ 1) b) fun m sd S hk hl hS => ?_).seq h3 fun m sd S hk hl hS => ?_
  · unfold vAnd
    rw [h1.old hk (by rw [x1_div]; exact hc), h1.old hk hb]
  · show sdN m (Wx m sd S g2) e1 ||| sdN m (Wx m sd S g2) e2 = _
    rw [h2.val m sd S hk hl hS, h2.old hk h1.lt, h1.val m sd S hk hl hS]
    unfold vAnd vMux
    rw [h1.old hk (by rw [x1_div]; exact hc), h1.old hk hb, sdN_flip (Wx_low hl hS gs)]
end L2

set_option Elab.async false
set_option linter.all false
set_option maxRecDepth 100000
/-! Where a bench's knots stand in the work: boxes ahead of the gates. -/
namespace L2
open PySem
def bkn : Nat → List Cn → List Nat
  | _, [] => []
  | k, none :: t => k :: bkn (k + 1) t
  | k, some _ :: t => bkn (k + 1) t
def gkn : Nat → List Cn → List Nat
  | _, [] => []
  | k, none :: t => gkn (k + 1) t
  | k, some _ :: t => k :: gkn (k + 1) t
def gat : List Cn → List (Nat × Nat)
  | [] => []
  | none :: t => gat t
  | some g :: t => g :: gat t
theorem bkn_snocB : ∀ (cs : List Cn) (k : Nat), bkn k (cs ++ [none]) = bkn k cs ++ [k + cs.length]
  | [], k => rfl
  | none :: t, k => by
    show k :: bkn (k + 1) (t ++ [none]) = k :: (bkn (k + 1) t ++ [k + (t.length + 1)])
    rw [bkn_snocB t (k + 1), show k + 1 + t.length = k + (t.length + 1) by omega]
  | some _ :: t, k => by
    show bkn (k + 1) (t ++ [none]) = bkn (k + 1) t ++ [k + (t.length + 1)]
    rw [bkn_snocB t (k + 1), show k + 1 + t.length = k + (t.length + 1) by omega]
theorem bkn_snocG (g : Nat × Nat) : ∀ (cs : List Cn) (k : Nat), bkn k (cs ++ [some g]) = bkn k cs
  | [], k => rfl
  | none :: t, k => by
    show k :: bkn (k + 1) (t ++ [some g]) = k :: bkn (k + 1) t
    rw [bkn_snocG g t (k + 1)]
  | some _ :: t, k => bkn_snocG g t (k + 1)
theorem gkn_snocB : ∀ (cs : List Cn) (k : Nat), gkn k (cs ++ [none]) = gkn k cs
  | [], k => rfl
  | none :: t, k => gkn_snocB t (k + 1)
  | some _ :: t, k => by
    show k :: gkn (k + 1) (t ++ [none]) = k :: gkn (k + 1) t
    rw [gkn_snocB t (k + 1)]
theorem gkn_snocG (g : Nat × Nat) : ∀ (cs : List Cn) (k : Nat), gkn k (cs ++ [some g]) = gkn k cs ++ [k + cs.length]
  | [], k => rfl
  | none :: t, k => by
    show gkn (k + 1) (t ++ [some g]) = gkn (k + 1) t ++ [k + (t.length + 1)]
    rw [gkn_snocG g t (k + 1), show k + 1 + t.length = k + (t.length + 1) by omega]
  | some _ :: t, k => by
    show k :: gkn (k + 1) (t ++ [some g]) = k :: (gkn (k + 1) t ++ [k + (t.length + 1)])
    rw [gkn_snocG g t (k + 1), show k + 1 + t.length = k + (t.length + 1) by omega]
theorem gat_snocB : ∀ (cs : List Cn), gat (cs ++ [none]) = gat cs
  | [] => rfl
  | none :: t => gat_snocB t
  | some g :: t => by
    show g :: gat (t ++ [none]) = g :: gat t
    rw [gat_snocB t]
theorem gat_snocG (g : Nat × Nat) : ∀ (cs : List Cn), gat (cs ++ [some g]) = gat cs ++ [g]
  | [] => rfl
  | none :: t => gat_snocG g t
  | some u :: t => by
    show u :: gat (t ++ [some g]) = u :: (gat t ++ [g])
    rw [gat_snocG g t]
theorem bg_len : ∀ (cs : List Cn) (k : Nat), (bkn k cs).length + (gkn k cs).length = cs.length
  | [], k => rfl
  | none :: t, k => by
    show (bkn (k + 1) t).length + 1 + (gkn (k + 1) t).length = t.length + 1
    have := bg_len t (k + 1)
    omega
  | some _ :: t, k => by
    show (bkn (k + 1) t).length + ((gkn (k + 1) t).length + 1) = t.length + 1
    have := bg_len t (k + 1)
    omega
theorem gat_len : ∀ (cs : List Cn) (k : Nat), (gat cs).length = (gkn k cs).length
  | [], k => rfl
  | none :: t, k => gat_len t (k + 1)
  | some _ :: t, k => by
    show (gat t).length + 1 = (gkn (k + 1) t).length + 1
    rw [gat_len t (k + 1)]
theorem bkn_at : ∀ (cs : List Cn) (k b j : Nat), (bkn k cs)[b]? = some j → ∃ i, j = k + i ∧ cs[i]? = some none
  | [], k, b, j, h => by cases h
  | none :: t, k, 0, j, h => by
    cases h
    exact ⟨0, rfl, rfl⟩
  | none :: t, k, b + 1, j, h => by
    obtain ⟨i, e, c⟩ := bkn_at t (k + 1) b j h
    exact ⟨i + 1, by omega, c⟩
  | some _ :: t, k, b, j, h => by
    obtain ⟨i, e, c⟩ := bkn_at t (k + 1) b j h
    exact ⟨i + 1, by omega, c⟩
theorem bkn_of : ∀ (cs : List Cn) (k i : Nat), cs[i]? = some none → ∃ b : Nat, (bkn k cs)[b]? = some (k + i)
  | [], k, i, h => by cases h
  | none :: t, k, 0, h => ⟨0, rfl⟩
  | some _ :: t, k, 0, h => by cases h
  | none :: t, k, i + 1, h => by
    obtain ⟨b, e⟩ := bkn_of t (k + 1) i h
    exact ⟨b + 1, by show (bkn (k + 1) t)[b]? = _; rw [e]; congr 1; omega⟩
  | some _ :: t, k, i + 1, h => by
    obtain ⟨b, e⟩ := bkn_of t (k + 1) i h
    exact ⟨b, by show (bkn (k + 1) t)[b]? = _; rw [e]; congr 1; omega⟩
theorem gkn_at : ∀ (cs : List Cn) (k q j : Nat), (gkn k cs)[q]? = some j → ∃ i g, j = k + i ∧ cs[i]? = some (some g) ∧ (gat cs)[q]? = some g
  | [], k, q, j, h => by cases h
  | some g :: t, k, 0, j, h => by
    cases h
    exact ⟨0, g, rfl, rfl, rfl⟩
  | some _ :: t, k, q + 1, j, h => by
    obtain ⟨i, g, e, c, d⟩ := gkn_at t (k + 1) q j h
    exact ⟨i + 1, g, by omega, c, d⟩
  | none :: t, k, q, j, h => by
    obtain ⟨i, g, e, c, d⟩ := gkn_at t (k + 1) q j h
    exact ⟨i + 1, g, by omega, c, d⟩
theorem gkn_of : ∀ (cs : List Cn) (k i : Nat) (g : Nat × Nat), cs[i]? = some (some g) → ∃ q : Nat, (gkn k cs)[q]? = some (k + i) ∧ (gat cs)[q]? = some g
  | [], k, i, g, h => by cases h
  | some u :: t, k, 0, g, h => by
    cases h
    exact ⟨0, rfl, rfl⟩
  | none :: t, k, 0, g, h => by cases h
  | some _ :: t, k, i + 1, g, h => by
    obtain ⟨q, e, d⟩ := gkn_of t (k + 1) i g h
    exact ⟨q + 1, by show (gkn (k + 1) t)[q]? = _; rw [e]; congr 1; omega, d⟩
  | none :: t, k, i + 1, g, h => by
    obtain ⟨q, e, d⟩ := gkn_of t (k + 1) i g h
    exact ⟨q, by show (gkn (k + 1) t)[q]? = _; rw [e]; congr 1; omega, d⟩
theorem gkn_mono : ∀ (cs : List Cn) (k p q a b : Nat), (gkn k cs)[p]? = some a → (gkn k cs)[q]? = some b → a < b → p < q
  | [], k, p, q, a, b, h, _, _ => by cases h
  | none :: t, k, p, q, a, b, h1, h2, h => gkn_mono t (k + 1) p q a b h1 h2 h
  | some _ :: t, k, p, 0, a, b, h1, h2, h => by
    cases h2
    obtain ⟨i, _, e, _⟩ := gkn_at _ _ _ _ h1
    omega
  | some _ :: t, k, 0, q + 1, a, b, h1, h2, h => by omega
  | some _ :: t, k, p + 1, q + 1, a, b, h1, h2, h => by
    have := gkn_mono t (k + 1) p q a b h1 h2 h
    omega
theorem gkn_inj : ∀ (cs : List Cn) (k p q a : Nat), (gkn k cs)[p]? = some a → (gkn k cs)[q]? = some a → p = q
  | [], k, p, q, a, h, _ => by cases h
  | none :: t, k, p, q, a, h1, h2 => gkn_inj t (k + 1) p q a h1 h2
  | some _ :: t, k, 0, 0, a, h1, h2 => rfl
  | some _ :: t, k, p + 1, 0, a, h1, h2 => by
    cases h2
    obtain ⟨i, _, e, _⟩ := gkn_at t (k + 1) p _ h1
    omega
  | some _ :: t, k, 0, q + 1, a, h1, h2 => by
    cases h1
    obtain ⟨i, _, e, _⟩ := gkn_at t (k + 1) q _ h2
    omega
  | some _ :: t, k, p + 1, q + 1, a, h1, h2 => by rw [gkn_inj t (k + 1) p q a h1 h2]
theorem bkn_inj : ∀ (cs : List Cn) (k p q a : Nat), (bkn k cs)[p]? = some a → (bkn k cs)[q]? = some a → p = q
  | [], k, p, q, a, h, _ => by cases h
  | some _ :: t, k, p, q, a, h1, h2 => bkn_inj t (k + 1) p q a h1 h2
  | none :: t, k, 0, 0, a, h1, h2 => rfl
  | none :: t, k, p + 1, 0, a, h1, h2 => by
    cases h2
    obtain ⟨i, e, _⟩ := bkn_at t (k + 1) p _ h1
    omega
  | none :: t, k, 0, q + 1, a, h1, h2 => by
    cases h1
    obtain ⟨i, e, _⟩ := bkn_at t (k + 1) q _ h2
    omega
  | none :: t, k, p + 1, q + 1, a, h1, h2 => by rw [bkn_inj t (k + 1) p q a h1 h2]
def bgL (k : Nat) (cs : List Cn) : List Nat := bkn k cs ++ gkn k cs
theorem bgL_len {k : Nat} {cs : List Cn} : (bgL k cs).length = cs.length := by unfold bgL; rw [List.length_append, bg_len]
theorem bgL_at {k : Nat} {cs : List Cn} {i j : Nat} (h : (bgL k cs)[i]? = some j) : k ≤ j ∧ j < k + cs.length := by
  unfold bgL at h
  by_cases hi : i < (bkn k cs).length
  · rw [List.getElem?_append_left hi] at h
    obtain ⟨a, e, c⟩ := bkn_at _ _ _ _ h
    have := (List.getElem?_eq_some_iff.mp c).1
    omega
  · rw [List.getElem?_append_right (by omega)] at h
    obtain ⟨a, g, e, c, _⟩ := gkn_at _ _ _ _ h
    have := (List.getElem?_eq_some_iff.mp c).1
    omega
theorem bgL_inj {k : Nat} {cs : List Cn} {p q a : Nat} (h1 : (bgL k cs)[p]? = some a) (h2 : (bgL k cs)[q]? = some a) : p = q := by
  unfold bgL at h1 h2
  by_cases hp : p < (bkn k cs).length <;> by_cases hq : q < (bkn k cs).length
  · rw [List.getElem?_append_left hp] at h1
    rw [List.getElem?_append_left hq] at h2
    exact bkn_inj _ _ _ _ _ h1 h2
  · rw [List.getElem?_append_left hp] at h1
    rw [List.getElem?_append_right (by omega)] at h2
    obtain ⟨i, e, c⟩ := bkn_at _ _ _ _ h1
    obtain ⟨i', g, e', c', _⟩ := gkn_at _ _ _ _ h2
    have : i = i' := by omega
    subst this
    rw [c] at c'
    cases c'
  · rw [List.getElem?_append_right (by omega)] at h1
    rw [List.getElem?_append_left hq] at h2
    obtain ⟨i, e, c⟩ := bkn_at _ _ _ _ h2
    obtain ⟨i', g, e', c', _⟩ := gkn_at _ _ _ _ h1
    have : i = i' := by omega
    subst this
    rw [c] at c'
    cases c'
  · rw [List.getElem?_append_right (by omega)] at h1 h2
    have := gkn_inj _ _ _ _ _ h1 h2
    omega
/-- the places, the first so many of the knots made -/
structure Plc (n : Nat) (cs : List Cn) (i : Nat) (pl : List Nat) : Prop where
  len : pl.length = 1 + n + cs.length
  ins : ∀ j, j < 1 + n → pl.getD j 0 = j
  made : ∀ a j, a < i → (bgL (1 + n) cs)[a]? = some j → pl.getD j 0 = 1 + n + a
theorem Plc.zero (n : Nat) (cs : List Cn) : Plc n cs 0 ((List.range (1 + n)) ++ List.replicate cs.length 0) :=
  ⟨by rw [List.length_append, List.length_range, List.length_replicate], fun j hj => by rw [List.getD_eq_getElem?_getD, List.getElem?_append_left (by rw [List.length_range]; exact hj), List.getElem?_range hj]; rfl, fun a j ha => absurd ha (Nat.not_lt_zero _)⟩
theorem Plc.set {n : Nat} {cs : List Cn} {i : Nat} {pl : List Nat} (h : Plc n cs i pl) {j : Nat} (hj : (bgL (1 + n) cs)[i]? = some j) : Plc n cs (i + 1) (pl.set j (1 + n + i)) := by
  obtain ⟨b1, b2⟩ := bgL_at hj
  refine ⟨by rw [List.length_set]; exact h.len, fun a ha => ?_, fun a u ha hu => ?_⟩
  · rw [List.getD_eq_getElem?_getD, List.getElem?_set_ne (by omega), ← List.getD_eq_getElem?_getD]
    exact h.ins a ha
  · by_cases e : a = i
    · subst e
      rw [hj] at hu
      cases hu
      rw [List.getD_eq_getElem?_getD, List.getElem?_set_self (by rw [h.len]; exact b2)]
      rfl
    · have hne : j ≠ u := fun z => e (bgL_inj hu (z ▸ hj))
      rw [List.getD_eq_getElem?_getD, List.getElem?_set_ne hne, ← List.getD_eq_getElem?_getD]
      exact h.made a u (by omega) hu
def pe (pl : List Nat) (e : Nat) : Nat := 2 * pl.getD (e / 2) 0 + e % 2
theorem pe_div {pl : List Nat} {e : Nat} : pe pl e / 2 = pl.getD (e / 2) 0 := by unfold pe; omega
theorem pe_mod {pl : List Nat} {e : Nat} : pe pl e % 2 = e % 2 := by unfold pe; omega
def gpl (pl : List Nat) (cs : List Cn) : List (Nat × Nat) := (gat cs).map fun g => (pe pl g.1, pe pl g.2)
section
variable {n : Nat} {cs : List Cn} {pl : List Nat}
theorem Plc.box (P : Plc n cs cs.length pl) {b j : Nat} (h : (bkn (1 + n) cs)[b]? = some j) : pl.getD j 0 = 1 + n + b := by
  have hb := (List.getElem?_eq_some_iff.mp h).1
  refine P.made b j ?_ (by unfold bgL; rw [List.getElem?_append_left hb]; exact h)
  have := bg_len cs (1 + n)
  omega
theorem Plc.gate (P : Plc n cs cs.length pl) {q j : Nat} (h : (gkn (1 + n) cs)[q]? = some j) : pl.getD j 0 = 1 + n + (bkn (1 + n) cs).length + q := by
  have hq := (List.getElem?_eq_some_iff.mp h).1
  have := bg_len cs (1 + n)
  rw [P.made ((bkn (1 + n) cs).length + q) j (by omega) (by unfold bgL; rw [List.getElem?_append_right (by omega), show (bkn (1 + n) cs).length + q - (bkn (1 + n) cs).length = q by omega]; exact h)]
  omega
/-- a knot stands behind what its gate reads -/
theorem Plc.lt (P : Plc n cs cs.length pl) {q i : Nat} {g : Nat × Nat} (hq : (gkn (1 + n) cs)[q]? = some (1 + n + i)) {x : Nat} (hx : x < 1 + n + i) (hi : i < cs.length) : pl.getD x 0 < 1 + n + (bkn (1 + n) cs).length + q := by
  by_cases h : x < 1 + n
  · rw [P.ins x h]
    omega
  · obtain ⟨a, rfl⟩ : ∃ a, x = 1 + n + a := ⟨x - (1 + n), by omega⟩
    have ha : a < cs.length := by omega
    cases hc : cs[a]? with
    | none => rw [List.getElem?_eq_none_iff] at hc; omega
    | some c =>
      cases c with
      | none =>
        obtain ⟨b, hb⟩ := bkn_of cs (1 + n) a hc
        have hbl := (List.getElem?_eq_some_iff.mp hb).1
        rw [P.box hb]
        omega
      | some u =>
        obtain ⟨p, hp, _⟩ := gkn_of cs (1 + n) a u hc
        rw [P.gate hp]
        have := gkn_mono _ _ _ _ _ _ hp hq (by omega)
        omega
theorem Plc.gok (P : Plc n cs cs.length pl) (ok : COk (1 + n) cs) : GOk (1 + n + (bkn (1 + n) cs).length) (gpl pl cs) := fun q u hu => by
  unfold gpl at hu
  rw [List.getElem?_map] at hu
  obtain ⟨g, hg, rfl⟩ := Option.map_eq_some_iff.mp hu
  have hql := (List.getElem?_eq_some_iff.mp hg).1
  rw [gat_len cs (1 + n)] at hql
  have hk : (gkn (1 + n) cs)[q]? = some (gkn (1 + n) cs)[q] := List.getElem?_eq_getElem hql
  obtain ⟨i, g', e, c, d⟩ := gkn_at _ _ _ _ hk
  rw [hg] at d
  cases d
  obtain ⟨o1, o2⟩ := ok i g c
  have hi := (List.getElem?_eq_some_iff.mp c).1
  rw [e] at hk
  exact ⟨by rw [pe_div]; exact P.lt (g := g) hk o1 hi, by rw [pe_div]; exact P.lt (g := g) hk o2 hi⟩
theorem Plc.all (P : Plc n cs cs.length pl) {j : Nat} (hj : j < 1 + n + cs.length) : pl.getD j 0 < 1 + n + cs.length := by
  by_cases h : j < 1 + n
  · rw [P.ins j h]
    exact hj
  · obtain ⟨a, rfl⟩ : ∃ a, j = 1 + n + a := ⟨j - (1 + n), by omega⟩
    have ha : a < cs.length := by omega
    have hbg := bg_len cs (1 + n)
    cases hc : cs[a]? with
    | none => rw [List.getElem?_eq_none_iff] at hc; omega
    | some c =>
      cases c with
      | none =>
        obtain ⟨b, hb⟩ := bkn_of cs (1 + n) a hc
        have hbl := (List.getElem?_eq_some_iff.mp hb).1
        rw [P.box hb]
        omega
      | some u =>
        obtain ⟨p, hp, _⟩ := gkn_of cs (1 + n) a u hc
        have hpl := (List.getElem?_eq_some_iff.mp hp).1
        rw [P.gate hp]
        omega
theorem Plc.worth (P : Plc n cs cs.length pl) (ok : COk (1 + n) cs) {m : Nat} {row st : List Nat} {S : Nat → Nat} (hr : row.length = n) (hst : st.length = (bkn (1 + n) cs).length) (hS : ∀ b j, (bkn (1 + n) cs)[b]? = some j → S j = st.getD b 0) :
    ∀ j, j < 1 + n + cs.length → (Wv m (row ++ st) (gpl pl cs)).getD (pl.getD j 0) 0 = (Wx m row S cs).getD j 0 := by
  intro j
  induction j using Nat.strongRecOn with
  | _ j ih =>
    intro hj
    have hgp : (gpl pl cs).length = (gkn (1 + n) cs).length := by unfold gpl; rw [List.length_map, gat_len cs (1 + n)]
    by_cases h : j < 1 + n
    · rw [P.ins j h]
      obtain ⟨X, ex⟩ := Wv_app m (row ++ st) [] (gpl pl cs)
      obtain ⟨Y, ey⟩ := Wx_app m row S [] cs
      rw [List.nil_append] at ex ey
      rw [ex, ey]
      show ((0 :: (row ++ st)) ++ X).getD j 0 = ((0 :: row) ++ Y).getD j 0
      rw [List.getD_eq_getElem?_getD, List.getD_eq_getElem?_getD, show (0 :: (row ++ st)) ++ X = (0 :: row) ++ (st ++ X) by simp, List.getElem?_append_left (by rw [List.length_cons]; omega), List.getElem?_append_left (by rw [List.length_cons]; omega)]
    · obtain ⟨a, rfl⟩ : ∃ a, j = 1 + n + a := ⟨j - (1 + n), by omega⟩
      have ha : a < cs.length := by omega
      subst hr
      cases hc : cs[a]? with
      | none => rw [List.getElem?_eq_none_iff] at hc; omega
      | some c =>
        cases c with
        | none =>
          obtain ⟨b, hb⟩ := bkn_of cs (1 + row.length) a hc
          have hbl := (List.getElem?_eq_some_iff.mp hb).1
          rw [P.box hb, ← sd_even (m := m), ← sd_even (m := m) (W := Wx m row S cs), Wx_bx hc, hS b _ hb, sd_even]
          obtain ⟨X, ex⟩ := Wv_app m (row ++ st) [] (gpl pl cs)
          rw [List.nil_append] at ex
          rw [ex]
          show ((0 :: (row ++ st)) ++ X).getD (1 + row.length + b) 0 = st.getD b 0
          rw [List.getD_eq_getElem?_getD, List.getD_eq_getElem?_getD, show (0 :: (row ++ st)) ++ X = (0 :: row) ++ (st ++ X) by simp, List.getElem?_append_right (by rw [List.length_cons]; omega), List.getElem?_append_left (by rw [List.length_cons]; omega), show 1 + row.length + b - (0 :: row).length = b by rw [List.length_cons]; omega]
        | some g =>
          obtain ⟨q, hq, hgq⟩ := gkn_of cs (1 + row.length) a g hc
          have hql := (List.getElem?_eq_some_iff.mp hq).1
          obtain ⟨o1, o2⟩ := ok a g hc
          have hgk := P.gok ok
          have hk : 1 + (row ++ st).length = 1 + row.length + (bkn (1 + row.length) cs).length := by rw [List.length_append]; omega
          have gu : (gpl pl cs)[q]? = some (pe pl g.1, pe pl g.2) := by unfold gpl; rw [List.getElem?_map, hgq]; rfl
          have wa := Wv_at (m := m) (sd := row ++ st) (by rw [hk]; exact hgk) gu
          rw [P.gate hq, ← sd_even (m := m), ← sd_even (m := m) (W := Wx m row S cs), Wx_at ok hc, ← hk, wa]
          have sdj : ∀ e, e / 2 < 1 + row.length + a → sdN m (Wv m (row ++ st) (gpl pl cs)) (pe pl e) = sdN m (Wx m row S cs) e := fun e he => by
            unfold sdN
            rw [pe_div, pe_mod, ih (e / 2) he (by omega)]
          rw [sdj _ o1, sdj _ o2]
theorem Plc.side (P : Plc n cs cs.length pl) (ok : COk (1 + n) cs) {m : Nat} {row st : List Nat} {S : Nat → Nat} (hr : row.length = n) (hst : st.length = (bkn (1 + n) cs).length) (hS : ∀ b j, (bkn (1 + n) cs)[b]? = some j → S j = st.getD b 0) {e : Nat} (he : e / 2 < 1 + n + cs.length) :
    sdN m (Wv m (row ++ st) (gpl pl cs)) (pe pl e) = sdN m (Wx m row S cs) e := by
  unfold sdN
  rw [pe_div, pe_mod, P.worth ok hr hst hS _ he]
end
end L2

set_option Elab.async false
set_option linter.all false
set_option maxRecDepth 100000
/-! The bench with boxes anywhere, as it stands on the heap. -/
namespace L2
open PySem
theorem bFs_dr {n k : Nat} {B : Ba} : (bFs n k B).lookup ("drive" : Str) = none := rfl
def KcOk (k : Nat) (gs : List Cn) (kn : List (List Key × V)) : Prop :=
  kn.length ≤ gs.length ∧ ∀ g : Nat × Nat, (valV kn (gkey g) = none ∧ some g ∉ gs) ∨ ∃ i : Nat, gs[i]? = some (some g) ∧ valV kn (gkey g) = some (.int ((2 * (k + i) : Nat) : Int))
theorem KcOk.nil {k : Nat} : KcOk k [] [] := ⟨Nat.le_refl _, fun g => .inl ⟨rfl, fun h => nomatch h⟩⟩
theorem KcOk.put {k : Nat} {gs : List Cn} {kn : List (List Key × V)} (h : KcOk k gs kn) (g : Nat × Nat) : KcOk k (gs ++ [some g]) (putK kn (gkey g) (.int ((2 * (k + gs.length) : Nat) : Int))) := by
  refine ⟨?_, fun u => ?_⟩
  · have := length_putK kn (gkey g) (.int ((2 * (k + gs.length) : Nat) : Int) : V)
    have := h.1
    rw [List.length_append, List.length_singleton]
    omega
  · rw [valV_put]
    by_cases e : gkey u = gkey g
    · rw [if_pos e, gkey_inj e]
      exact .inr ⟨gs.length, by simp, rfl⟩
    · rw [if_neg e]
      rcases h.2 u with ⟨h1, h2⟩ | ⟨i, h1, h2⟩
      · refine .inl ⟨h1, fun hm => ?_⟩
        rcases List.mem_append.mp hm with q | q
        · exact h2 q
        · exact e (by rw [Option.some.inj (List.mem_singleton.mp q)])
      · exact .inr ⟨i, by rw [List.getElem?_append_left (List.getElem?_eq_some_iff.mp h1).1]; exact h1, h2⟩
theorem KcOk.box {k : Nat} {gs : List Cn} {kn : List (List Key × V)} (h : KcOk k gs kn) : KcOk k (gs ++ [none]) kn := by
  refine ⟨by have := h.1; rw [List.length_append]; omega, fun u => ?_⟩
  rcases h.2 u with ⟨h1, h2⟩ | ⟨i, h1, h2⟩
  · refine .inl ⟨h1, fun hm => ?_⟩
    rcases List.mem_append.mp hm with q | q
    · exact h2 q
    · cases List.mem_singleton.mp q
  · exact .inr ⟨i, by rw [List.getElem?_append_left (List.getElem?_eq_some_iff.mp h1).1]; exact h1, h2⟩
structure BenOn (C : Addr) (H : Hp) (B : Ba) (n : Nat) (fs : List Int) (gs : List Cn) (DV : Nat → Option Nat) (dl : Nat) : Prop where
  ob : H B.b = some (.ins C B.dx (bFs n (1 + n + gs.length) B))
  hf : H B.pf = some (.lst (fs.map V.int))
  hb : H B.pb = some (.lst (nV (bkn (1 + n) gs)))
  hd : ∃ dr, H B.pd = some (.dK dr) ∧ dr.length ≤ dl ∧ ∀ k : Nat, valV dr (.inl (k : Int)) = (DV k).map fun e => V.int (e : Int)
  hg : ∃ rs, PrsR H B.pg rs ((gat gs).map ci)
  hk : H B.pk = some (.lst (nV (gkn (1 + n) gs)))
  hn : ∃ kn, H B.pn = some (.dT kn) ∧ KcOk (1 + n) gs kn
  ap : B.pg ≠ B.pf ∧ B.pg ≠ B.pb ∧ B.pk ≠ B.pf ∧ B.pk ≠ B.pb ∧ B.pg ≠ B.pk ∧ B.pf ≠ B.pb
  ok : COk (1 + n) gs
  fl : fs.length = (bkn (1 + n) gs).length
section
variable {C : Addr} {H H' : Hp} {B : Ba} {n dl : Nat} {fs : List Int} {gs : List Cn} {DV : Nat → Option Nat}
theorem BenOn.mv (h : BenOn C H B n fs gs DV dl) (k : ∀ a o, ¬ Off B a → H a = some o → H' a = some o) (kt : KeepT H H') : BenOn C H' B n fs gs DV dl := by
  obtain ⟨rs, hg⟩ := h.hg
  obtain ⟨kn, h1, h2⟩ := h.hn
  obtain ⟨dr, d1, d2⟩ := h.hd
  exact ⟨k _ _ (fun o => o.1 rfl) h.ob, k _ _ (fun o => o.2.1 rfl) h.hf, k _ _ (fun o => o.2.2.1 rfl) h.hb, ⟨dr, k _ _ (fun o => o.2.2.2.1 rfl) d1, d2⟩, ⟨rs, k _ _ (fun o => o.2.2.2.2.1 rfl) hg.1, pairedMono (fun _ _ q => kt _ _ q) hg.2⟩, k _ _ (fun o => o.2.2.2.2.2.1 rfl) h.hk, ⟨kn, k _ _ (fun o => o.2.2.2.2.2.2 rfl) h1, h2⟩, h.ap, h.ok, h.fl⟩
theorem BenOn.same (h : BenOn C H B n fs gs DV dl) (s : Same H H') : BenOn C H' B n fs gs DV dl := h.mv (fun a o _ e => s _ _ e) (KeepT.same s)
theorem BenOn.cl {rs : List Addr} (h : BenOn C H B n fs gs DV dl) (c : Cl rs H H') (o : ∀ r ∈ rs, Off B r) : BenOn C H' B n fs gs DV dl :=
  h.mv (fun a u na e => c.1 a u (fun m => na (o a m)) e) c.keepT
theorem BenOn.free (h : BenOn C H B n fs gs DV dl) {p : Addr} (hp : H p = none) : Off B p := by
  obtain ⟨rs, hg⟩ := h.hg
  obtain ⟨kn, h1, _⟩ := h.hn
  obtain ⟨dr, d1, d2⟩ := h.hd
  exact ⟨(ne_of_none h.ob hp).symm, (ne_of_none h.hf hp).symm, (ne_of_none h.hb hp).symm, (ne_of_none d1 hp).symm, (ne_of_none hg.1 hp).symm, (ne_of_none h.hk hp).symm, (ne_of_none h1 hp).symm⟩
theorem BenOn.offT (h : BenOn C H B n fs gs DV dl) {a : Addr} {xs : List V} (e : H a = some (.tup xs)) : Off B a := by
  obtain ⟨rs, hg⟩ := h.hg
  obtain ⟨kn, h1, _⟩ := h.hn
  obtain ⟨dr, d1, d2⟩ := h.hd
  refine ⟨fun z => ?_, fun z => ?_, fun z => ?_, fun z => ?_, fun z => ?_, fun z => ?_, fun z => ?_⟩
  · rw [z, h.ob] at e; cases e
  · rw [z, h.hf] at e; cases e
  · rw [z, h.hb] at e; cases e
  · rw [z, d1] at e; cases e
  · rw [z, hg.1] at e; cases e
  · rw [z, h.hk] at e; cases e
  · rw [z, h1] at e; cases e
/-- only a bench's own has changed -/
def Bd (B : Ba) (H H' : Hp) : Prop := ∀ a o, Off B a → H a = some o → H' a = some o
theorem Bd.refl : Bd B H H := fun _ _ _ e => e
theorem Bd.trans {H1 : Hp} (a : Bd B H H1) (b : Bd B H1 H') : Bd B H H' := fun c o n e => b c o n (a c o n e)
theorem Bd.of (s : Same H H') : Bd B H H' := fun c o _ e => s c o e
theorem Bd.put {p : Addr} (h : ¬ Off B p) (u : HO) : Bd B H (upd H p u) := fun c o n e => by
  rw [upd_ne (show c ≠ p from fun z => h (z ▸ n))]
  exact e
theorem Bd.off (g : Bd B H H') {a : Addr} {o : HO} (h : Off B a) (e : H a = some o) : H' a = some o := g a o h e
theorem Bd.keepT (g : Bd B H H') (h : BenOn C H B n fs gs DV dl) : KeepT H H' := fun a xs e => g a _ (h.offT e) e
theorem Bd.same {H0 : Hp} (g : Bd B H H') (s : Same H0 H) (nB : ∀ a o, H0 a = some o → Off B a) : Same H0 H' := fun a o e => g a o (nB a o e) (s a o e)
theorem nofB : ¬ Off B B.b := fun o => o.1 rfl
theorem nofF : ¬ Off B B.pf := fun o => o.2.1 rfl
theorem nofX : ¬ Off B B.pb := fun o => o.2.2.1 rfl
theorem nofD : ¬ Off B B.pd := fun o => o.2.2.2.1 rfl
theorem nofG : ¬ Off B B.pg := fun o => o.2.2.2.2.1 rfl
theorem nofK : ¬ Off B B.pk := fun o => o.2.2.2.2.2.1 rfl
theorem nofN : ¬ Off B B.pn := fun o => o.2.2.2.2.2.2 rfl
end
/-- the boxes of a work: their firsts, and where their next ends stand -/
def bxo (pl : List Nat) (DV : Nat → Option Nat) (fs : List Int) (ks : List Nat) : List (Int × Nat) := (fs.zip ks).map fun p => (p.1, pe pl ((DV p.2).getD (2 * p.2)))
def bxi (xs : List (Int × Nat)) : List (Int × Int) := xs.map fun p => (p.1, ((p.2 : Nat) : Int))
theorem bxi_len {xs : List (Int × Nat)} : (bxi xs).length = xs.length := by unfold bxi; rw [List.length_map]
end L2

set_option Elab.async false
set_option linter.all false
set_option maxRecDepth 100000
/-! Targets of three names; a list unpacked. -/
namespace L2
open PySem PySem.Spec PyProof.Rows
section
variable {prog : Program} {w : World} {A : Around} {E : Value → Shared → Prop} {s : Shared}
theorem drawL {it t : Addr} {items : Array Value} (hne : t ≠ it) : ∀ (n i : Nat) (s : Shared) (Q : List Value → Shared → Prop), s.heap.IsListIter it t i → s.heap.IsList t items → i + n ≤ items.size →
    (∀ h', h'.IsListIter it t (i + n) → Heap.SameBut it s.heap h' → Q ((items.toList.drop i).take n) { s with heap := h' }) → wpAny (model prog w) A (draw (.ref it) n) Q E s
  | 0, i, s, Q, hit, _, _, hQ => by
    show wpAny _ _ (pure []) Q E s
    exact wpAny_pure (by simpa using hQ s.heap hit (Heap.SameBut.refl ..))
  | n + 1, i, s, Q, hit, ht, hle, hQ => by
    have hlt : i < items.size := by omega
    show wpAny _ _ (pyNext (.ref it) >>= _) Q E s
    refine wpAny_bind (wpAny_pyNext_list_item hit ht (x := items[i]) (by simp [hlt]) fun h₁ hit₁ hs₁ => ?_)
    have ht1 : h₁.IsList t items := by
      obtain ⟨o, ho, r⟩ := ht
      exact ⟨o, (hs₁.2 t hne).trans ho, r⟩
    refine wpAny_bind (wpAny_holding (drawL hne n (i + 1) _ _ hit₁ ht1 (by omega) fun h₂ hit₂ hs₂ => wpAny_pure ?_))
    have hd : items.toList.drop i = items[i] :: items.toList.drop (i + 1) := by simp [List.drop_eq_getElem_cons, hlt]
    have := hQ h₂ (by rw [show i + (n + 1) = i + 1 + n by omega]; exact hit₂) (hs₁.trans hs₂)
    rw [hd, List.take_succ_cons] at this
    exact this
theorem unpackItemsL {t : Addr} {items : Array Value} {Q : List Value → Shared → Prop} (hh : A.handled = none) (ht : s.heap.IsList t items)
    (hQ : ∀ h', Heap.ExtBut s.heap.objs.size s.heap h' → Q items.toList { s with heap := h' }) : wpAny (model prog w) A (unpackItems (.ref t) items.size none) Q E s := by
  have hlt : t ≠ s.heap.objs.size := by obtain ⟨o, ho, _⟩ := ht; exact Nat.ne_of_lt (Heap.lt_size ho)
  unfold unpackItems
  refine wpAny_bind ?_
  · unfold notIterableAtAll
    refine wpAny_bind (wpAny_specialOf ht.typeIs slot_list_iter.lookup ?_)
    refine wpAny_pure ?_
    simp only [Bool.false_eq_true, if_false]
    refine wpAny_bind (wpAny_holding (wpAny_pyIter_list ht ?_))
    have htp : (s.heap.push { cls := .type "list_iterator", data := .fields #[.ref t, .int 0 0] }).IsList t items := ht.push _
    refine wpAny_bind (wpAny_holding (drawL hlt items.size 0 _ _ ⟨_, Heap.get?_push_size _ rfl, rfl, rfl⟩ htp (by omega) fun h₁ hit₁ hs₁ => ?_))
    have hall : List.take items.size (List.drop 0 items.toList) = items.toList := by
      rw [List.drop_zero]; exact List.take_of_length_le (by simp)
    rw [hall]
    rw [if_neg (by simp)]
    have ht₁ : h₁.IsList t items := by
      obtain ⟨o, ho, r⟩ := htp
      exact ⟨o, (hs₁.2 t hlt).trans ho, r⟩
    refine wpAny_bind (wpAny_holding (wpAny_pyNext_list_end hh hit₁ ht₁ (by simp) fun h₂ he₂ => ?_))
    simp only [Option.isSome_none, Bool.false_eq_true, if_false]
    refine wpAny_pure (hQ h₂ fun b o hb e => he₂ b o hb (hs₁.extBut b o hb (Heap.get?_push_of_some _ e)))
theorem unpackL {t : Addr} {items : Array Value} {targets : List (Bool × (Value → Sem Unit))} {Q : Unit → Shared → Prop} (hh : A.handled = none) (ht : s.heap.IsList t items)
    (hn : targets.length = items.size) (hstar : targets.findIdx? (·.1) = none)
    (h : ∀ h', Heap.ExtBut s.heap.objs.size s.heap h' → wpAny (model prog w) A (assignInOrder (targets.map (·.2)) items.toList) Q E { s with heap := h' }) :
    wpAny (model prog w) A (unpack (.ref t) targets) Q E s := by
  unfold unpack
  rw [hn, hstar]
  exact wpAny_bind (wpAny_holding (unpackItemsL hh ht h))
end
section
variable {X : Cx} {pos : Pos}
/-- (a, b, ..) = a list of that length -/
def gLst (K : PySem.W.Frag) (n : Nat) (t : TGs) : TG := fun v σ H Q => ∃ a xs, v = .ref a ∧ SqL K H a xs ∧ xs.length = n ∧ t xs σ H Q
theorem pg_lst {es : List Expr} {k : Nat} {t : TGs} {n : Nat} (hc : X.calm = true) (h : PGs X es t)
    (hn : (assignEach es X.env).length = n := by rfl) (hst : (assignEach es X.env).findIdx? (·.1) = none := by rfl) : PG X (.Tuple es k pos) (gLst X.K n t) := by
  intro pins s σ H v u Q I r hw
  obtain ⟨a, xs, e1, hq, hl, hw⟩ := hw
  subst e1
  cases r
  obtain ⟨its, rv, ht, hz⟩ := I.list hq
  rw [assign_Tuple]
  refine wpAny_bind (wpAny_standAt (unpackL (I.ok.hd hc) ht.isList (by simp [hn, ← hl, rv.length]) hst fun h' hx => ?_))
  have I1 : Inv X pins σ H { s with heap := h' } := I.kept (t' := s.toks) fun b o e => hx b o (Nat.ne_of_lt (Heap.lt_size e)) e
  exact h pins _ σ H xs _ Q I1 (by simpa using rv) hw
end
theorem shp_tup3 {K : PySem.W.Frag} : Shp 3 (gTup K 3 (gCons (gName 0) (gCons (gName 1) (gCons (gName 2) gNil)))) := fun v os c H Q hos h => by
  match os, hos with
  | [a, b, d], _ =>
  obtain ⟨p, xs, rfl, hp, hl, v1, r1, rfl, v2, r2, rfl, v3, r3, rfl, rfl, q⟩ := h
  exact ⟨p, _, rfl, hp, hl, v1, _, rfl, v2, _, rfl, v3, _, rfl, rfl, ⟨[some v1, some v2, some v3], rfl, rfl⟩, q⟩
theorem Paired.at {α β : Type} {R : α → β → Prop} : ∀ {xs : List α} {ps : List β} {i : Nat} {x : α}, Paired R xs ps → xs[i]? = some x → ∃ p, ps[i]? = some p ∧ R x p
  | _, _, _, _, .nil, h => by cases h
  | _, _, 0, _, .cons r _, h => by cases h; exact ⟨_, rfl, r⟩
  | _, _, i + 1, _, .cons _ t, h => Paired.at (i := i) t h
theorem comp_paired {K : PySem.W.Frag} {a : Addr} {S : V → St} {te : TE} {H : Hp} {Fin : List V → Hp → Prop} {α : Type} {R : Addr → α → Prop} {rs : List Addr} {ps : List α} (f : α → V) (hS : SqL K H a (rs.map V.ref)) (hp : Paired R rs ps) (hz : rs.length ≤ 100000) (hs : ∀ r p, R r p → p ∈ ps → ∀ N : V → Hp → Prop, N (f p) H → te (S (.ref r)) H N) (hd : Fin (ps.map f) H) : CompW (Itl K a) S tYes te H Fin := by
  have hl := Paired.length hp
  refine comp_list (xs := rs.map V.ref) (fun i ys H' => ys = (ps.take i).map f ∧ H = H') ⟨rfl, rfl⟩ ?_ ?_ ?_ ?_
  · rintro i ys H' _ ⟨_, rfl⟩
    exact hS
  · rintro i ys H' hi ⟨rfl, _⟩
    rw [List.length_map, List.length_take]
    rw [List.length_map] at hi
    exact smallL (by omega)
  · rintro i x ys H' hx ⟨rfl, rfl⟩
    rw [List.getElem?_map] at hx
    obtain ⟨r, hr, rfl⟩ := Option.map_eq_some_iff.mp hx
    obtain ⟨p, hpi, hR⟩ := Paired.at hp hr
    unfold tYes
    dsimp only
    rw [if_pos rfl]
    refine hs r p hR (List.mem_of_getElem? hpi) _ ⟨?_, rfl⟩
    rw [take_get hpi, List.map_append]
    rfl
  · rintro ys H' ⟨rfl, rfl⟩
    rw [List.length_map, hl, List.take_length]
    exact hd
theorem comp_listG {K : PySem.W.Frag} {n : Nat} {c : St} {g : TG} {tt : TT} {te : TE} {H : Hp} {Fin : List V → Hp → Prop} {a : Addr} {xs : List V} (Pv : Nat → List V → Hp → Prop) (h0 : Pv 0 [] H) (hl : ∀ i ys H, i ≤ xs.length → Pv i ys H → SqL K H a xs) (hz : ∀ i ys H, i < xs.length → Pv i ys H → ys.length < sizeLine)
    (hs : ∀ i x ys H (os : St), os.length = n → xs[i]? = some x → Pv i ys H → g x (os ++ c) H fun σ2 H2 => tt σ2 H2 fun b H3 => if b = true then te σ2 H3 fun y H4 => Pv (i + 1) (ys ++ [y]) H4 else Pv (i + 1) ys H3)
    (hd : ∀ ys H, Pv xs.length ys H → Fin ys H) : CompG (Itl K a) n c g tt te H Fin := by
  refine ⟨fun i m ys H => m = xs.length - i ∧ i ≤ xs.length ∧ Pv i ys H, ⟨xs.length, by simp, Nat.zero_le _, h0⟩, ?_⟩
  rintro i m ys H ⟨rfl, hi, p⟩
  have q1 := hl i ys H hi p
  by_cases hlt : i < xs.length
  · refine .inr ⟨⟨xs, xs[i], q1, by simp [hlt]⟩, hz i ys H hlt p, Pv (i + 1), fun ys' H' p' => ⟨xs.length - (i + 1), by omega, rfl, hlt, p'⟩, fun v H' y os hos => ?_⟩
    obtain ⟨e, y⟩ := y
    subst e
    exact hs i v ys _ os hos (y xs q1) p
  · have e : i = xs.length := by omega
    subst e
    exact .inl ⟨⟨xs, q1, Nat.le_refl _⟩, hd ys H p⟩
open Classical in
theorem exS (bk st : List Nat) (inj : ∀ (p q a : Nat), bk[p]? = some a → bk[q]? = some a → p = q) : ∃ S : Nat → Nat, (∀ (b j : Nat), bk[b]? = some j → S j = st.getD b 0) ∧ ∀ m, Low m st → Sw m S := by
  refine ⟨fun j => if h : ∃ b : Nat, bk[b]? = some j then st.getD (Classical.choose h) 0 else 0, fun b j hb => ?_, fun m lo j => ?_⟩
  · have h : ∃ b : Nat, bk[b]? = some j := ⟨b, hb⟩
    dsimp only
    rw [dif_pos h, inj _ _ _ (Classical.choose_spec h) hb]
  · dsimp only
    split
    · exact getD_low lo _
    · exact Nat.pow_pos (by decide)
end L2

set_option Elab.async false
set_option linter.all false
set_option maxRecDepth 100000
set_option maxHeartbeats 4000000
namespace K26
open PySem L2
def top (i : Nat) : Stmt := PySem.Challenge.pw_lampforge_k26_boxes_on_a_bench.main.body.getD i (.Pass ⟨0, 0, 0, 0⟩)
abbrev s_Bench_init : Stmt := inClass (top 1) 0
abbrev s_Bench_into : Stmt := inClass (top 1) 1
abbrev s_Bench_box : Stmt := inClass (top 1) 2
abbrev s_Bench_new_knot : Stmt := inClass (top 1) 3
abbrev s_Bench_drive : Stmt := inClass (top 1) 4
abbrev s_Bench_both : Stmt := inClass (top 1) 5
abbrev s_Bench_either : Stmt := inClass (top 1) 6
abbrev s_Bench_odd : Stmt := inClass (top 1) 7
abbrev s_Bench_choice : Stmt := inClass (top 1) 8
abbrev s_Bench_work : Stmt := inClass (top 1) 9
abbrev s_both_without_gate : Stmt := top 2
abbrev s_placed : Stmt := top 3
abbrev s_L_cell_at : Stmt := top 5
abbrev s_L_bag : Stmt := top 6
abbrev s_L_take : Stmt := top 7
abbrev s_L_whole : Stmt := top 8
abbrev s_L_ends : Stmt := top 9
abbrev s_L_formed : Stmt := top 10
abbrev s_L_side : Stmt := top 11
abbrev s_L_beat : Stmt := top 12
abbrev s_L_pick : Stmt := top 13
abbrev s_L_end : Stmt := top 14
abbrev s_L_told : Stmt := top 15
abbrev s_L_worth : Stmt := top 16
abbrev s_L_due : Stmt := top 17
abbrev s_L_deeds : Stmt := top 18
abbrev s_L_runs : Stmt := top 19
abbrev s_law : Stmt := top 20
theorem sc_Bench_init : FnScope ["self", "ins"] ["self", "ins"] (defScope s_Bench_init) := ⟨rfl, rfl, rfl, by decide +kernel, rfl, by decide +kernel, by decide +kernel⟩
theorem sc_Bench_into : FnScope ["self", "k"] ["self", "k"] (defScope s_Bench_into) := ⟨rfl, rfl, rfl, by decide +kernel, rfl, by decide +kernel, by decide +kernel⟩
theorem sc_Bench_box : FnScope ["self", "first"] ["self", "first"] (defScope s_Bench_box) := ⟨rfl, rfl, rfl, by decide +kernel, rfl, by decide +kernel, by decide +kernel⟩
theorem sc_Bench_new_knot : FnScope ["self"] ["self"] (defScope s_Bench_new_knot) := ⟨rfl, rfl, rfl, by decide +kernel, rfl, by decide +kernel, by decide +kernel⟩
theorem sc_Bench_drive : FnScope ["self", "box", "end"] ["self", "box", "end"] (defScope s_Bench_drive) := ⟨rfl, rfl, rfl, by decide +kernel, rfl, by decide +kernel, by decide +kernel⟩
theorem sc_Bench_both : FnScope ["self", "a", "b", "end", "gate"] ["self", "a", "b"] (defScope s_Bench_both) := ⟨rfl, rfl, rfl, by decide +kernel, rfl, by decide +kernel, by decide +kernel⟩
theorem sc_Bench_either : FnScope ["self", "a", "b"] ["self", "a", "b"] (defScope s_Bench_either) := ⟨rfl, rfl, rfl, by decide +kernel, rfl, by decide +kernel, by decide +kernel⟩
theorem sc_Bench_odd : FnScope ["self", "a", "b"] ["self", "a", "b"] (defScope s_Bench_odd) := ⟨rfl, rfl, rfl, by decide +kernel, rfl, by decide +kernel, by decide +kernel⟩
theorem sc_Bench_choice : FnScope ["self", "c", "a", "b"] ["self", "c", "a", "b"] (defScope s_Bench_choice) := ⟨rfl, rfl, rfl, by decide +kernel, rfl, by decide +kernel, by decide +kernel⟩
theorem sc_Bench_work : FnScope ["self", "outs", "places", "place", "knot", "boxes", "first", "gates"] ["self", "outs"] (defScope s_Bench_work) := ⟨rfl, rfl, rfl, by decide +kernel, rfl, by decide +kernel, by decide +kernel⟩
theorem sc_both_without_gate : FnScope ["a", "b", "low", "high"] ["a", "b"] (defScope s_both_without_gate) := ⟨rfl, rfl, rfl, by decide +kernel, rfl, by decide +kernel, by decide +kernel⟩
theorem sc_placed : FnScope ["places", "end"] ["places", "end"] (defScope s_placed) := ⟨rfl, rfl, rfl, by decide +kernel, rfl, by decide +kernel, by decide +kernel⟩
theorem sc_L_cell_at : FnScope ["_law_script", "_law_k"] ["_law_script", "_law_k"] (defScope s_L_cell_at) := ⟨rfl, rfl, rfl, by decide +kernel, rfl, by decide +kernel, by decide +kernel⟩
theorem sc_L_bag : FnScope ["_law_script", "_law_k", "_law_cell"] ["_law_script", "_law_k"] (defScope s_L_bag) := ⟨rfl, rfl, rfl, by decide +kernel, rfl, by decide +kernel, by decide +kernel⟩
theorem sc_L_take : FnScope ["_law_bag_here", "_law_many", "_law_found"] ["_law_bag_here", "_law_many"] (defScope s_L_take) := ⟨rfl, rfl, rfl, by decide +kernel, rfl, by decide +kernel, by decide +kernel⟩
theorem sc_L_whole : FnScope ["_law_found"] ["_law_found"] (defScope s_L_whole) := ⟨rfl, rfl, rfl, by decide +kernel, rfl, by decide +kernel, by decide +kernel⟩
theorem sc_L_ends : FnScope ["_law_some", "_law_knots"] ["_law_some", "_law_knots"] (defScope s_L_ends) := ⟨rfl, rfl, rfl, by decide +kernel, rfl, by decide +kernel, by decide +kernel⟩
theorem sc_L_formed : FnScope ["_law_work", "_law_ins", "_law_firsts", "_law_outs", "_law_knots", "_law_gate", "_law_k", "_law_box"] ["_law_work", "_law_ins", "_law_firsts", "_law_outs"] (defScope s_L_formed) := ⟨rfl, rfl, rfl, by decide +kernel, rfl, by decide +kernel, by decide +kernel⟩
theorem sc_L_side : FnScope ["_law_worths", "_law_end_here", "_law_ones"] ["_law_worths", "_law_end_here", "_law_ones"] (defScope s_L_side) := ⟨rfl, rfl, rfl, by decide +kernel, rfl, by decide +kernel, by decide +kernel⟩
theorem sc_L_beat : FnScope ["_law_work", "_law_stand", "_law_row", "_law_ones", "_law_worths", "_law_one", "_law_other", "_law_outs"] ["_law_work", "_law_stand", "_law_row", "_law_ones"] (defScope s_L_beat) := ⟨rfl, rfl, rfl, by decide +kernel, rfl, by decide +kernel, by decide +kernel⟩
theorem sc_L_pick : FnScope ["_law_bag_here", "_law_many"] ["_law_bag_here", "_law_many"] (defScope s_L_pick) := ⟨rfl, rfl, rfl, by decide +kernel, rfl, by decide +kernel, by decide +kernel⟩
theorem sc_L_end : FnScope ["_law_ends_here", "_law_pick_here", "_law_end_here"] ["_law_ends_here", "_law_pick_here"] (defScope s_L_end) := ⟨rfl, rfl, rfl, by decide +kernel, rfl, by decide +kernel, by decide +kernel⟩
theorem sc_L_told : FnScope ["_law_bench", "_law_deed", "_law_ends_here", "_law_kind", "_law_first", "_law_picks", "_law_a", "_law_b", "_law_c"] ["_law_bench", "_law_deed", "_law_ends_here"] (defScope s_L_told) := ⟨rfl, rfl, rfl, by decide +kernel, rfl, by decide +kernel, by decide +kernel⟩
theorem sc_L_worth : FnScope ["_law_worths", "_law_pick_here", "_law_ones"] ["_law_worths", "_law_pick_here", "_law_ones"] (defScope s_L_worth) := ⟨rfl, rfl, rfl, by decide +kernel, rfl, by decide +kernel, by decide +kernel⟩
theorem sc_L_due : FnScope ["_law_deeds_here", "_law_stand", "_law_row", "_law_ones", "_law_worths", "_law_boxes", "_law_kind", "_law_first", "_law_picks", "_law_a", "_law_b", "_law_c"] ["_law_deeds_here", "_law_stand", "_law_row", "_law_ones"] (defScope s_L_due) := ⟨rfl, rfl, rfl, by decide +kernel, rfl, by decide +kernel, by decide +kernel⟩
theorem sc_L_deeds : FnScope ["_law_bag_here", "_law_ins", "_law_many", "_law_deeds_here", "_law_boxes", "_law_k", "_law_kind", "_law_picks"] ["_law_bag_here", "_law_ins", "_law_many"] (defScope s_L_deeds) := ⟨rfl, rfl, rfl, by decide +kernel, rfl, by decide +kernel, by decide +kernel⟩
theorem sc_L_runs : FnScope ["_law_work", "_law_deeds_here", "_law_outs", "_law_driven", "_law_rows", "_law_ones", "_law_firsts", "_law_stand", "_law_due_stand", "_law_row", "_law_worths", "_law_found"] ["_law_work", "_law_deeds_here", "_law_outs", "_law_driven", "_law_rows", "_law_ones"] (defScope s_L_runs) := ⟨rfl, rfl, rfl, by decide +kernel, rfl, by decide +kernel, by decide +kernel⟩
theorem sc_law : FnScope ["_law_script", "_law_ins", "_law_ones", "_law_deeds_here", "_law_firsts", "_law_bag_here", "_law_outs", "_law_driven", "_law_k", "_law_pick_here", "_law_rows", "_law_bench", "_law_ends_here", "_law_boxes", "_law_deed", "_law_some", "_law_box", "_law_work"] ["_law_script"] (defScope s_law) := ⟨rfl, rfl, rfl, by decide +kernel, rfl, by decide +kernel, by decide +kernel⟩
/-- where the top's defs and tables stand -/
structure Ad where
  a_Bench_init : Addr
  d_Bench_init : FuncData
  a_Bench_into : Addr
  d_Bench_into : FuncData
  a_Bench_box : Addr
  d_Bench_box : FuncData
  a_Bench_new_knot : Addr
  d_Bench_new_knot : FuncData
  a_Bench_drive : Addr
  d_Bench_drive : FuncData
  a_Bench_both : Addr
  d_Bench_both : FuncData
  a_Bench_either : Addr
  d_Bench_either : FuncData
  a_Bench_odd : Addr
  d_Bench_odd : FuncData
  a_Bench_choice : Addr
  d_Bench_choice : FuncData
  a_Bench_work : Addr
  d_Bench_work : FuncData
  a_both_without_gate : Addr
  d_both_without_gate : FuncData
  a_placed : Addr
  d_placed : FuncData
  a_L_cell_at : Addr
  d_L_cell_at : FuncData
  a_L_bag : Addr
  d_L_bag : FuncData
  a_L_take : Addr
  d_L_take : FuncData
  a_L_whole : Addr
  d_L_whole : FuncData
  a_L_ends : Addr
  d_L_ends : FuncData
  a_L_formed : Addr
  d_L_formed : FuncData
  a_L_side : Addr
  d_L_side : FuncData
  a_L_beat : Addr
  d_L_beat : FuncData
  a_L_pick : Addr
  d_L_pick : FuncData
  a_L_end : Addr
  d_L_end : FuncData
  a_L_told : Addr
  d_L_told : FuncData
  a_L_worth : Addr
  d_L_worth : FuncData
  a_L_due : Addr
  d_L_due : FuncData
  a_L_deeds : Addr
  d_L_deeds : FuncData
  a_L_runs : Addr
  d_L_runs : FuncData
  a_law : Addr
  d_law : FuncData
  c_Bench : Addr
def sp_B_init (C : Addr) : Sp := fun vs H Q _ => ∃ (o dx : Addr) (n : Nat), vs = [.ref o, .int n] ∧ H o = some (.ins C dx []) ∧ ∀ (B : Ba) H', B.b = o → B.dx = dx → (H B.pf = none ∧ H B.pb = none ∧ H B.pd = none ∧ H B.pg = none ∧ H B.pk = none ∧ H B.pn = none) → (∀ a u, a ≠ o → H a = some u → H' a = some u) → BenOn C H' B n [] [] (fun _ => none) 0 → Q .non H'
def sp_B_into : Sp := fun vs H Q _ => ∃ (o : Addr) (k : Int), vs = [.ref o, .int k] ∧ Q (.int (2 * (1 + k))) H
def sp_B_knot (C : Addr) : Sp := fun vs H Q _ => ∃ (B : Ba) (n k : Nat), vs = [.ref B.b] ∧ H B.b = some (.ins C B.dx (bFs n k B)) ∧ Q (.int ((2 * k : Nat) : Int)) (upd H B.b (.ins C B.dx (bFs n (k + 1) B)))
def sp_B_two (C : Addr) (lim c : Nat) (f : Nat → Nat → Nat → List Nat → Nat) : Sp := fun vs H Q _ => ∃ (B : Ba) (n dl : Nat) (fs : List Int) (gs : List Cn) (DV : Nat → Option Nat) (x y : Nat), vs = [.ref B.b, .int x, .int y] ∧ BenOn C H B n fs gs DV dl ∧ gs.length ≤ lim ∧ x / 2 < 1 + n + gs.length ∧ y / 2 < 1 + n + gs.length ∧
  ∀ (e : Nat) gs' H', Mdo (1 + n) c gs gs' e (f x y) → Bd B H H' → BenOn C H' B n fs gs' DV dl → Q (.int e) H'
def sp_B_both (C : Addr) : Sp := sp_B_two C 90010 1 vAnd
def sp_B_either (C : Addr) : Sp := sp_B_two C 90005 1 vOr
def sp_B_odd (C : Addr) : Sp := sp_B_two C 90000 3 vXor
def sp_B_choice (C : Addr) : Sp := fun vs H Q _ => ∃ (B : Ba) (n dl : Nat) (fs : List Int) (gs : List Cn) (DV : Nat → Option Nat) (z x y : Nat), vs = [.ref B.b, .int z, .int x, .int y] ∧ BenOn C H B n fs gs DV dl ∧ gs.length ≤ 90000 ∧ z / 2 < 1 + n + gs.length ∧ x / 2 < 1 + n + gs.length ∧ y / 2 < 1 + n + gs.length ∧
  ∀ (e : Nat) gs' H', Mdo (1 + n) 3 gs gs' e (vMux z x y) → Bd B H H' → BenOn C H' B n fs gs' DV dl → Q (.int e) H'
def sp_B_box (C : Addr) : Sp := fun vs H Q _ => ∃ (B : Ba) (n dl : Nat) (fs : List Int) (gs : List Cn) (DV : Nat → Option Nat) (k : Int), vs = [.ref B.b, .int k] ∧ BenOn C H B n fs gs DV dl ∧ gs.length ≤ 1000 ∧ ∀ H', Bd B H H' → BenOn C H' B n (fs ++ [k]) (gs ++ [none]) DV dl → Q (.int ((2 * (1 + n + gs.length) : Nat) : Int)) H'
def sp_B_drive (C : Addr) : Sp := fun vs H Q _ => ∃ (B : Ba) (n dl : Nat) (fs : List Int) (gs : List Cn) (DV : Nat → Option Nat) (x e : Nat), vs = [.ref B.b, .int x, .int e] ∧ BenOn C H B n fs gs DV dl ∧ dl ≤ 1000 ∧ ∀ H', Bd B H H' → BenOn C H' B n fs gs (fun k => if k = x / 2 then some e else DV k) (dl + 1) → Q .non H'
def vO (o : Option Nat) : V := match o with | some e => .int (e : Int) | none => .non
def sp_nogate : Sp := fun vs H Q _ => ∃ x y : Nat, vs = [.int x, .int y] ∧ Q (vO (noGate x y)) H
def sp_cell_at (K : PySem.W.Frag) : Sp := fun vs H Q _ => ∃ (a : Addr) (ns : List Int) (k : Int), vs = [.ref a, .int k] ∧ SqL K H a (ns.map V.int) ∧ 0 ≤ k ∧ ∀ v : Int, Q (.int v) H
def sp_B_bag (K : PySem.W.Frag) : Sp := fun vs H Q _ => ∃ (a : Addr) (ns : List Int) (k : Int), vs = [.ref a, .int k] ∧ SqL K H a (ns.map V.int) ∧ 0 ≤ k ∧ k < 1000 ∧ ∀ l (b0 b1 : Int), H l = none → 0 ≤ b0 → Q (.ref l) (upd H l (.lst [.int b0, .int b1]))
theorem _root_.L2.Same.upd {H H' : Hp} {p : Addr} (s : Same H H') (hp : H p = none) (o : HO) : Same H (L2.upd H' p o) := fun c u e => by
  rw [upd_ne (ne_of_none e hp)]
  exact s _ _ e
theorem at0 {xs : List V} {i : Nat} {v : V} (h : xs[i]? = some v) : atI xs (0 + (i : Int)) = some v := by rw [Int.zero_add]; exact atI_nat h
theorem and_nat (a b : Nat) : Builtin.bitAnd (a : Int) (b : Int) = ((a &&& b : Nat) : Int) := by
  rw [PyProof.Rows.bitAnd_pp (by omega) (by omega), Int.toNat_natCast, Int.toNat_natCast]
theorem or_nat (a b : Nat) : Builtin.bitOr (a : Int) (b : Int) = ((a ||| b : Nat) : Int) := by
  rw [PyProof.Rows.bitOr_and, PyProof.Rows.bitAnd_pp (by omega) (by omega), Int.toNat_natCast, Int.toNat_natCast]
  have h := or_sum a b
  omega
theorem getD_at {xs : List Nat} {i : Nat} (h : i < xs.length) : xs[i] = xs.getD i 0 := by rw [List.getD_eq_getElem?_getD, List.getElem?_eq_getElem h]; rfl
theorem nV_at {L : List Nat} {i : Nat} (h : i < L.length) : (nV L)[i]? = some (.int ((L.getD i 0 : Nat) : Int)) := by rw [nV_get h, getD_at]
theorem nV_snoc {A : List Nat} {x : Nat} : nV (A ++ [x]) = nV A ++ [.int (x : Int)] := by unfold nV; rw [List.map_append]; rfl
theorem nV_set {L : List Nat} {k x : Nat} : (nV L).set k (.int (x : Int)) = nV (L.set k x) := by unfold nV; rw [List.map_set]
def cN (L : List Nat) : List Int := L.map fun e => ((e : Nat) : Int)
def sp_placed : Sp := fun vs H Q _ => ∃ (pp : Addr) (pl : List Nat) (e : Nat), vs = [.ref pp, .int e] ∧ H pp = some (.lst (nV pl)) ∧ e / 2 < pl.length ∧ Q (.int ((pe pl e : Nat) : Int)) H
def sp_B_work (C : Addr) : Sp := fun vs H Q _ => ∃ (B : Ba) (n dl : Nat) (fs : List Int) (gs : List Cn) (DV : Nat → Option Nat) (po : Addr) (es : List Nat), vs = [.ref B.b, .ref po] ∧ BenOn C H B n fs gs DV dl ∧ n ≤ 1000 ∧ gs.length ≤ 50000 ∧ H po = some (.lst (nV es)) ∧ es.length ≤ 1000 ∧ (∀ e ∈ es, e / 2 < 1 + n + gs.length) ∧ (∀ k e, DV k = some e → e / 2 < 1 + n + gs.length) ∧
  ∀ pl w b g o H', Plc n gs gs.length pl → H w = none → H b = none → H g = none → H o = none → g ≠ o → Same H H' → IsWkA H' w b g o ⟨n, bxi (bxo pl DV fs (bkn (1 + n) gs)), (gpl pl gs).map ci, cN (es.map (pe pl))⟩ → Q (.ref w) H'
def sp_whole : Sp := fun vs H Q _ => ∃ i : Int, vs = [.int i] ∧ Q (.bl true) H
def sp_ends : Sp := fun vs H Q _ => ∃ (p : Addr) (xs : List Nat) (N : Nat), vs = [.ref p, .int N] ∧ (H p = some (.lst (nV xs)) ∨ H p = some (.tup (nV xs))) ∧ xs.length ≤ 2000 ∧ (∀ x ∈ xs, x / 2 < N) ∧ ∀ H', Same H H' → Q (.bl true) H'
def sp_formed : Sp := fun vs H Q _ => ∃ (w b g o pf : Addr) (n : Nat) (xs : List (Int × Nat)) (gs : List (Nat × Nat)) (es : List Nat), vs = [.ref w, .int n, .ref pf, .int (es.length : Nat)] ∧ IsWkA H w b g o ⟨n, bxi xs, gs.map ci, cN es⟩ ∧ H pf = some (.lst ((xs.map Prod.fst).map V.int)) ∧ xs.length ≤ 1000 ∧ gs.length ≤ 90010 ∧ es.length ≤ 1000 ∧ GOk (1 + n + xs.length) gs ∧ (∀ e ∈ es, e / 2 < 1 + n + xs.length + gs.length) ∧ (∀ x ∈ xs, x.2 / 2 < 1 + n + xs.length + gs.length) ∧ ∀ H', Same H H' → Q (.bl true) H'
def sp_side : Sp := fun vs H Q _ => ∃ (p : Addr) (W : List Nat) (m e : Nat), vs = [.ref p, .int e, .int ((2 ^ m - 1 : Nat) : Int)] ∧ H p = some (.lst (nV W)) ∧ e / 2 < W.length ∧ Low m W ∧ Q (.int ((sdN m W e : Nat) : Int)) H
def sp_beat : Sp := fun vs H Q _ => ∃ (w b g o ps pr : Addr) (n m : Nat) (xs : List (Int × Nat)) (gs : List (Nat × Nat)) (es st row : List Nat), vs = [.ref w, .ref ps, .ref pr, .int ((2 ^ m - 1 : Nat) : Int)] ∧ IsWkA H w b g o ⟨n, bxi xs, gs.map ci, cN es⟩ ∧ H ps = some (.lst (nV st)) ∧ H pr = some (.lst (nV row)) ∧ row.length = n ∧ st.length = xs.length ∧ n ≤ 1000 ∧ xs.length ≤ 1000 ∧ gs.length ≤ 90010 ∧ es.length ≤ 1000 ∧ Low m row ∧ Low m st ∧ GOk (1 + n + xs.length) gs ∧ (∀ e ∈ es, e / 2 < 1 + n + xs.length + gs.length) ∧ (∀ x ∈ xs, x.2 / 2 < 1 + n + xs.length + gs.length) ∧
  ∀ t po pn H', Same H H' → H' t = some (.tup [.ref po, .ref pn]) → H' po = some (.lst (nV (es.map (sdN m (Wv m (row ++ st) gs))))) → H' pn = some (.lst (nV ((xs.map Prod.snd).map (sdN m (Wv m (row ++ st) gs))))) → Q (.ref t) H'
def sp_law (K : PySem.W.Frag) : Sp := fun vs H Q _ => ∃ (a : Addr) (ns : List Int), vs = [.ref a] ∧ SqL K H a (ns.map V.int) ∧ ns.length ≤ 63 ∧ ∀ H', Q (.bl true) H'
abbrev Pk := Nat × Bool
structure Dd where
  k : Nat
  f : Nat
  a : Pk
  b : Pk
  c : Pk
def PkAt (H : Hp) (t : Addr) (p : Pk) : Prop := H t = some (.tup [.int (p.1 : Int), .bl p.2])
def PkL (H : Hp) (q : Addr) (ps : List Pk) : Prop := ∃ ts : List Addr, H q = some (.lst (ts.map V.ref)) ∧ Paired (PkAt H) ts ps
def DdAt (H : Hp) (r : Addr) (d : Dd) : Prop := ∃ q, H r = some (.tup [.int (d.k : Int), .int (d.f : Int), .ref q]) ∧ PkL H q [d.a, d.b, d.c]
def DdsAt (H : Hp) (p : Addr) (rs : List Addr) (ds : List Dd) : Prop := H p = some (.lst (rs.map V.ref)) ∧ Paired (DdAt H) rs ds
def eV (es : List Nat) (p : Pk) : Nat := if p.2 = true then es.getD p.1 0 ^^^ 1 else es.getD p.1 0
def wV (m : Nat) (W : List Nat) (p : Pk) : Nat := if p.2 = true then 2 ^ m - 1 - W.getD p.1 0 else W.getD p.1 0
def sp_pick : Sp := fun vs H Q _ => ∃ (l : Addr) (N : Nat), vs = [.ref l, .int N] ∧ Bag H l ∧ 0 < N ∧ N ≤ 1000 ∧ ∀ t (p : Pk) H', H t = none → p.1 < N → Bg l H H' → PkAt H' t p → Q (.ref t) H'
def sp_end : Sp := fun vs H Q _ => ∃ (p t : Addr) (es : List Nat) (k : Pk), vs = [.ref p, .ref t] ∧ H p = some (.lst (nV es)) ∧ PkAt H t k ∧ k.1 < es.length ∧ Q (.int ((eV es k : Nat) : Int)) H
def sp_worth : Sp := fun vs H Q _ => ∃ (p t : Addr) (W : List Nat) (k : Pk) (m : Nat), vs = [.ref p, .ref t, .int ((2 ^ m - 1 : Nat) : Int)] ∧ H p = some (.lst (nV W)) ∧ PkAt H t k ∧ k.1 < W.length ∧ Low m W ∧ Q (.int ((wV m W k : Nat) : Int)) H
def vK (k a b c : Nat) : Nat → List Nat → Nat := match k with | 0 => vAnd a b | 1 => vOr a b | 2 => vXor a b | _ => vMux c a b
def sp_told (C : Addr) : Sp := fun vs H Q _ => ∃ (B : Ba) (r p : Addr) (n dl : Nat) (fs : List Int) (gs : List Cn) (DV : Nat → Option Nat) (es : List Nat) (d : Dd), vs = [.ref B.b, .ref r, .ref p] ∧ BenOn C H B n fs gs DV dl ∧ gs.length ≤ 1000 ∧ DdAt H r d ∧ H p = some (.lst (nV es)) ∧ (∀ e ∈ es, e / 2 < 1 + n + gs.length) ∧ d.k ≤ 4 ∧ d.a.1 < es.length ∧ d.b.1 < es.length ∧ d.c.1 < es.length ∧
  ∀ (e : Nat) fs' gs' H', Bd B H H' → BenOn C H' B n fs' gs' DV dl → ((d.k = 4 ∧ fs' = fs ++ [(d.f : Int)] ∧ gs' = gs ++ [none] ∧ e = 2 * (1 + n + gs.length)) ∨ (d.k ≠ 4 ∧ fs' = fs ∧ Mdo (1 + n) 3 gs gs' e (vK d.k (eV es d.a) (eV es d.b) (eV es d.c)))) → Q (.int e) H'
/-- what the deeds tell: the worths so far, and how many boxes -/
def opV (m k a b c : Nat) : Nat := match k with | 0 => a &&& b | 1 => a ||| b | 2 => a ^^^ b | _ => muxV m c a b
def dueS (m : Nat) (st : List Nat) (x : List Nat × Nat) (d : Dd) : List Nat × Nat :=
  if d.k = 4 then (x.1 ++ [st.getD x.2 0], x.2 + 1)
  else (x.1 ++ [opV m d.k (wV m x.1 d.a) (wV m x.1 d.b) (wV m x.1 d.c)], x.2)
def dueL (m : Nat) (row st : List Nat) (ds : List Dd) : List Nat × Nat := ds.foldl (dueS m st) ([0, 2 ^ m - 1] ++ row, 0)
def DOk (n : Nat) (ds : List Dd) : Prop := ∀ (i : Nat) (d : Dd), ds[i]? = some d → d.k ≤ 4 ∧ d.f ≤ 1 ∧ d.a.1 < 2 + n + i ∧ d.b.1 < 2 + n + i ∧ d.c.1 < 2 + n + i
def sp_due : Sp := fun vs H Q _ => ∃ (pd ps pr : Addr) (rs : List Addr) (ds : List Dd) (n m : Nat) (st row : List Nat), vs = [.ref pd, .ref ps, .ref pr, .int ((2 ^ m - 1 : Nat) : Int)] ∧ DdsAt H pd rs ds ∧ ds.length ≤ 1000 ∧ DOk n ds ∧ H ps = some (.lst (nV st)) ∧ H pr = some (.lst (nV row)) ∧ row.length = n ∧ n ≤ 100 ∧ Low m row ∧ Low m st ∧ (dueL m row st ds).2 ≤ st.length ∧
  ∀ p' H', H p' = none → Same H H' → H' p' = some (.lst (nV (dueL m row st ds).1)) → Q (.ref p') H'
def sp_deeds : Sp := fun vs H Q _ => ∃ (l : Addr) (n N : Nat), vs = [.ref l, .int n, .int N] ∧ Bag H l ∧ n ≤ 100 ∧ N ≤ 100 ∧ ∀ p rs ds H', H p = none → Bg l H H' → DdsAt H' p rs ds → ds.length = N → DOk n ds → (ds.filter fun d => d.k == 4).length ≤ 5 → Q (.ref p) H'
theorem x1_val (e : Nat) : (e : Int) + 1 - 2 * ((e : Int) % 2) = ((e ^^^ 1 : Nat) : Int) := by
  have h1 := x1_div e
  have h2 := x1_mod e
  omega
theorem wV_low {m : Nat} {W : List Nat} (h : Low m W) (k : Pk) : wV m W k < 2 ^ m := by
  unfold wV
  have := getD_low h k.1
  split
  · omega
  · exact this
theorem PkL.same {H H' : Hp} {q : Addr} {ps : List Pk} (h : PkL H q ps) (s : Same H H') : PkL H' q ps := let ⟨ts, a, b⟩ := h; ⟨ts, s _ _ a, pairedMono (fun _ _ c => s _ _ c) b⟩
theorem DdAt.same {H H' : Hp} {r : Addr} {d : Dd} (h : DdAt H r d) (s : Same H H') : DdAt H' r d := let ⟨q, a, b⟩ := h; ⟨q, s _ _ a, b.same s⟩
theorem DdsAt.same {H H' : Hp} {p : Addr} {rs : List Addr} {ds : List Dd} (h : DdsAt H p rs ds) (s : Same H H') : DdsAt H' p rs ds := ⟨s _ _ h.1, pairedMono (fun _ _ c => DdAt.same c s) h.2⟩
theorem Bag.neR {H : Hp} {l q : Addr} {ts : List Addr} (b : Bag H l) (h : H q = some (.lst (ts.map V.ref))) : q ≠ l := fun e => by
  obtain ⟨b0, b1, hl, _⟩ := b
  rw [e, hl] at h
  cases ts with
  | nil => cases h
  | cons t r => cases h
theorem DdAt.bg {H H' : Hp} {l r : Addr} {d : Dd} (h : DdAt H r d) (b : Bag H l) (g : Bg l H H') : DdAt H' r d := by
  obtain ⟨q, a, ts, c, e⟩ := h
  exact ⟨q, Bg.keepT b g _ _ a, ts, g.1 _ _ (Bag.neR b c) c, pairedMono (fun _ _ z => Bg.keepT b g _ _ z) e⟩
theorem DdsAt.bg {H H' : Hp} {l p : Addr} {rs : List Addr} {ds : List Dd} (h : DdsAt H p rs ds) (b : Bag H l) (g : Bg l H H') : DdsAt H' p rs ds := ⟨g.1 _ _ (Bag.neR b h.1) h.1, pairedMono (fun _ _ c => DdAt.bg c b g) h.2⟩
theorem rdN {K : PySem.W.Frag} {H : Hp} {t : Addr} {A : List Nat} (f : H t = some (.lst (nV A))) : RdD K H (.list ((cN A).map PyData.int)) (.ref t) := RdD.lst (SqL.of f) (by rw [nV_eq]; exact RdDs.ints _)
theorem upd_none {H : Hp} {p a : Addr} {o : HO} (h : upd H p o a = none) : a ≠ p ∧ H a = none := by
  unfold upd at h
  split at h
  · cases h
  · rename_i c; exact ⟨c, h⟩
theorem made_ben {H H1 : Hp} {C : Addr} {B : Ba} {x dx : Addr} (hx : H x = none) (hdx : H dx = none) (hb : B.b = x) (hfr : upd (upd H dx (.own x)) x (.ins C dx []) B.pf = none ∧ upd (upd H dx (.own x)) x (.ins C dx []) B.pb = none ∧ upd (upd H dx (.own x)) x (.ins C dx []) B.pd = none ∧ upd (upd H dx (.own x)) x (.ins C dx []) B.pg = none ∧ upd (upd H dx (.own x)) x (.ins C dx []) B.pk = none ∧ upd (upd H dx (.own x)) x (.ins C dx []) B.pn = none) (hk : ∀ a u, a ≠ x → upd (upd H dx (.own x)) x (.ins C dx []) a = some u → H1 a = some u) :
    Same H H1 ∧ (H B.b = none ∧ H B.pf = none ∧ H B.pb = none ∧ H B.pd = none ∧ H B.pg = none ∧ H B.pk = none ∧ H B.pn = none) := by
  have f : ∀ a, upd (upd H dx (.own x)) x (.ins C dx []) a = none → H a = none := fun a h => (upd_none (upd_none h).2).2
  obtain ⟨f1, f2, f3, f4, f5, f6⟩ := hfr
  exact ⟨fun a u e => hk a u (ne_of_none e hx) (by rw [upd_ne (ne_of_none e hx), upd_ne (ne_of_none e hdx)]; exact e), hb ▸ hx, f _ f1, f _ f2, f _ f3, f _ f4, f _ f5, f _ f6⟩
def DX (p : Addr) (H : Hp) (r : Addr) (d : Dd) : Prop := ∃ qq, qq ≠ p ∧ H r = some (.tup [.int (d.k : Int), .int (d.f : Int), .ref qq]) ∧ PkL H qq [d.a, d.b, d.c]
theorem DX.same {p r : Addr} {H H' : Hp} {d : Dd} (h : DX p H r d) (s : Same H H') : DX p H' r d := let ⟨q, n, a, b⟩ := h; ⟨q, n, s _ _ a, b.same s⟩
theorem DX.bg {p l r : Addr} {H H' : Hp} {d : Dd} (h : DX p H r d) (b : Bag H l) (g : Bg l H H') : DX p H' r d := by
  obtain ⟨q, n, a, ts, c, e⟩ := h
  exact ⟨q, n, Bg.keepT b g _ _ a, ts, g.1 _ _ (Bag.neR b c) c, pairedMono (fun _ _ z => Bg.keepT b g _ _ z) e⟩
theorem DX.put {p r : Addr} {H : Hp} {d : Dd} {xs ys : List V} (h : DX p H r d) (fp : H p = some (.lst xs)) : DX p (upd H p (.lst ys)) r d := by
  obtain ⟨q, n, a, ts, c, e⟩ := h
  have kt : KeepT H (upd H p (.lst ys)) := KeepT.lst fp _
  exact ⟨q, n, kt _ _ a, ts, by rw [upd_ne n]; exact c, pairedMono (fun _ _ z => kt _ _ z) e⟩
def cnt4 (k : Nat) : Nat := if k = 4 then 1 else 0
theorem cnt_eq (nb k : Nat) : ((nb : Int) + if decide (V.int (k : Int) = V.int 4) = true then 1 else 0) = ((nb + cnt4 k : Nat) : Int) := by
  unfold cnt4
  by_cases h : k = 4
  · rw [if_pos h, if_pos (decide_eq_true (by rw [h]; rfl))]
    omega
  · rw [if_neg h, if_neg (by intro z; have := of_decide_eq_true z; injection this with e; omega)]
    omega
theorem cnt_one {d : Dd} : ([d].filter fun d => d.k == 4).length = cnt4 d.k := by
  unfold cnt4
  by_cases h : d.k = 4
  · rw [if_pos h, show ([d].filter fun d => d.k == 4) = [d] by simp [h]]
    rfl
  · rw [if_neg h, show ([d].filter fun d => d.k == 4) = [] by simp [h]]
    rfl
theorem DOk.snoc {n i : Nat} {ds : List Dd} {d : Dd} (ok : DOk n ds) (hl : ds.length = i) (h1 : d.k ≤ 4) (h2 : d.f ≤ 1) (h3 : d.a.1 < 2 + n + i) (h4 : d.b.1 < 2 + n + i) (h5 : d.c.1 < 2 + n + i) : DOk n (ds ++ [d]) := fun j u hu => by
  by_cases hj : j < ds.length
  · rw [List.getElem?_append_left hj] at hu
    exact ok j u hu
  · rw [List.getElem?_append_right (by omega)] at hu
    have hj0 : j = ds.length := by
      have := (List.getElem?_eq_some_iff.mp hu).1
      simp at this
      omega
    subst hj0
    rw [Nat.sub_self] at hu
    cases hu
    subst hl
    exact ⟨h1, h2, h3, h4, h5⟩
theorem op_at {m k a b c : Nat} (hc : c < 2 ^ m) (hk : k ≤ 3) : atI ([.int (Builtin.bitAnd (a : Int) (b : Int)), .int (Builtin.bitOr (a : Int) (b : Int)), .int (Builtin.bitXor (a : Int) (b : Int)), .int (Builtin.bitOr (Builtin.bitAnd (c : Int) (a : Int)) (Builtin.bitAnd (((2 ^ m - 1 : Nat) : Int) - (c : Int)) (b : Int)))] : List V) (k : Int) = some (.int ((opV m k a b c : Nat) : Int)) := by
  rw [show ((2 ^ m - 1 : Nat) : Int) - (c : Int) = ((2 ^ m - 1 - c : Nat) : Int) by omega, and_nat, and_nat, and_nat, or_nat, or_nat, xor_nat]
  have hk' : k = 0 ∨ k = 1 ∨ k = 2 ∨ k = 3 := by omega
  rcases hk' with rfl | rfl | rfl | rfl <;> rfl
theorem dueS_fst {m : Nat} {st : List Nat} {x : List Nat × Nat} {d : Dd} : ∃ v, (dueS m st x d).1 = x.1 ++ [v] ∧ (Low m x.1 → Low m st → v < 2 ^ m) := by
  unfold dueS
  by_cases h : d.k = 4
  · rw [if_pos h]
    exact ⟨_, rfl, fun _ l => getD_low l _⟩
  · rw [if_neg h]
    refine ⟨_, rfl, fun l _ => ?_⟩
    have la := wV_low l d.a
    have lb := wV_low l d.b
    have lc := wV_low l d.c
    unfold opV
    split
    · exact Nat.lt_of_le_of_lt Nat.and_le_left la
    · exact Nat.or_lt_two_pow la lb
    · exact Nat.xor_lt_two_pow la lb
    · exact Nat.or_lt_two_pow (Nat.lt_of_le_of_lt Nat.and_le_left lc) (Nat.lt_of_le_of_lt Nat.and_le_right lb)
theorem due_snoc {m : Nat} {row st : List Nat} {ds : List Dd} {d : Dd} : dueL m row st (ds ++ [d]) = dueS m st (dueL m row st ds) d := by unfold dueL; rw [List.foldl_append]; rfl
theorem due_len {m : Nat} {row st : List Nat} {ds : List Dd} : (dueL m row st ds).1.length = 2 + row.length + ds.length := by
  induction ds using snoc_ind with
  | h0 => unfold dueL; simp; omega
  | hs ds d ih =>
    obtain ⟨v, e, _⟩ := dueS_fst (m := m) (st := st) (x := dueL m row st ds) (d := d)
    rw [due_snoc, e, List.length_append, ih, List.length_append]
    simp
    omega
theorem due_low {m : Nat} {row st : List Nat} (lr : Low m row) (ls : Low m st) (ds : List Dd) : Low m (dueL m row st ds).1 := by
  induction ds using snoc_ind with
  | h0 =>
    intro v hv
    have hp : 0 < 2 ^ m := Nat.pow_pos (by decide)
    rcases List.mem_append.mp hv with h | h
    · simp only [List.mem_cons, List.not_mem_nil, or_false] at h
      rcases h with rfl | rfl
      · exact hp
      · omega
    · exact lr v h
  | hs ds d ih =>
    obtain ⟨v, e, lv⟩ := dueS_fst (m := m) (st := st) (x := dueL m row st ds) (d := d)
    rw [due_snoc, e]
    intro u hu
    rcases List.mem_append.mp hu with h | h
    · exact ih u h
    · rw [List.mem_singleton.mp h]
      exact lv ih ls
theorem due_grow {m : Nat} {row st : List Nat} {ds : List Dd} {d : Dd} : (dueL m row st ds).2 ≤ (dueL m row st (ds ++ [d])).2 := by
  rw [due_snoc]
  unfold dueS
  split
  · exact Nat.le_succ _
  · exact Nat.le_refl _
theorem due_cnt {m : Nat} {row st : List Nat} (ds : List Dd) (i : Nat) : (dueL m row st (ds.take i)).2 ≤ (dueL m row st ds).2 := by
  have h : ∀ t : List Dd, (dueL m row st (ds.take i)).2 ≤ (dueL m row st (ds.take i ++ t)).2 := fun t => by
    induction t using snoc_ind with
    | h0 => rw [List.append_nil]; exact Nat.le_refl _
    | hs t d ih => rw [← List.append_assoc]; exact Nat.le_trans ih due_grow
  have := h (ds.drop i)
  rwa [List.take_append_drop] at this
theorem due_count {m : Nat} {row st : List Nat} {ds : List Dd} : (dueL m row st ds).2 = (ds.filter fun d => d.k == 4).length := by
  induction ds using snoc_ind with
  | h0 => rfl
  | hs ds d ih =>
    rw [due_snoc, List.filter_append, List.length_append, cnt_one, ← ih]
    unfold dueS cnt4
    by_cases h : d.k = 4
    · rw [if_pos h, if_pos h]
    · rw [if_neg h, if_neg h]
      rfl
/-- what the ends told are worth is what is due -/
def EI (n m : Nat) (gs : List Cn) (es : List Nat) (ds : List Dd) : Prop := ∀ (row st : List Nat) (S : Nat → Nat), row.length = n → Low m row → Low m st → Sw m S → (∀ (b j : Nat), (bkn (1 + n) gs)[b]? = some j → S j = st.getD b 0) → ∀ idx : Nat, idx < es.length → sdN m (Wx m row S gs) (es.getD idx 0) = (dueL m row st ds).1.getD idx 0
theorem EI.side {n m : Nat} {gs : List Cn} {es : List Nat} {ds : List Dd} (h : EI n m gs es ds) {row st : List Nat} {S : Nat → Nat} (hr : row.length = n) (lr : Low m row) (ls : Low m st) (hS : Sw m S) (hb : ∀ (b j : Nat), (bkn (1 + n) gs)[b]? = some j → S j = st.getD b 0) {k : Pk} (hk : k.1 < es.length) : sdN m (Wx m row S gs) (eV es k) = wV m (dueL m row st ds).1 k := by
  have e := h row st S hr lr ls hS hb k.1 hk
  unfold eV wV
  split
  · rw [sdN_flip (Wx_low lr hS gs), e]
  · exact e
def es0 (n : Nat) : List Nat := [0, 1] ++ (List.range n).map fun i => 2 * (1 + i)
theorem es0_len {n : Nat} : (es0 n).length = 2 + n + 0 := by unfold es0; rw [List.length_append, List.length_map, List.length_range]; rfl
theorem es0_ok {n : Nat} : ∀ e ∈ es0 n, e / 2 < 1 + n + ([] : List Cn).length := fun e he => by
  unfold es0 at he
  rcases List.mem_append.mp he with h | h
  · simp only [List.mem_cons, List.not_mem_nil, or_false] at h
    rcases h with rfl | rfl <;> (show _ < 1 + n + 0; omega)
  · obtain ⟨i, hi, rfl⟩ := List.mem_map.mp h
    have := List.mem_range.mp hi
    show _ < 1 + n + 0
    omega
theorem EI_nil {n m : Nat} : EI n m [] (es0 n) [] := fun row st S hr lr ls hS hb idx hi => by
  subst hr
  show sdN m (0 :: row) ((es0 row.length).getD idx 0) = ([0, 2 ^ m - 1] ++ row).getD idx 0
  rw [es0_len] at hi
  unfold es0
  by_cases h0 : idx = 0
  · subst h0
    show sdN m (0 :: row) 0 = 0
    unfold sdN
    rw [if_neg (by decide)]
    rfl
  · by_cases h1 : idx = 1
    · subst h1
      show sdN m (0 :: row) 1 = 2 ^ m - 1
      unfold sdN
      rw [if_pos (by decide)]
      rfl
    · obtain ⟨j, rfl⟩ : ∃ j, idx = j + 2 := ⟨idx - 2, by omega⟩
      show sdN m (0 :: row) (((List.range row.length).map fun i => 2 * (1 + i)).getD j 0) = row.getD j 0
      rw [List.getD_eq_getElem?_getD, List.getElem?_map, List.getElem?_range (by omega)]
      show sdN m (0 :: row) (2 * (1 + j)) = _
      rw [sd_even, Nat.add_comm 1 j]
      rfl
theorem bkn_gates (k : Nat) (gs : List Cn) (t : List (Nat × Nat)) : bkn k (gs ++ t.map some) = bkn k gs := by
  induction t using snoc_ind with
  | h0 => rw [List.map_nil, List.append_nil]
  | hs t g ih => rw [List.map_append, ← List.append_assoc, List.map_cons, List.map_nil, bkn_snocG, ih]
theorem getD_left {A : List Nat} {x i : Nat} (h : i < A.length) : (A ++ [x]).getD i 0 = A.getD i 0 := by rw [List.getD_eq_getElem?_getD, List.getD_eq_getElem?_getD, List.getElem?_append_left h]
theorem getD_end {A : List Nat} {x i : Nat} (h : i = A.length) : (A ++ [x]).getD i 0 = x := by subst h; rw [List.getD_eq_getElem?_getD, List.getElem?_append_right (Nat.le_refl _), Nat.sub_self]; rfl
theorem EI_box {n m : Nat} {gs : List Cn} {es : List Nat} {ds : List Dd} {d : Dd} (h : EI n m gs es ds) (hl : es.length = 2 + n + ds.length) (ee : ∀ e ∈ es, e / 2 < 1 + n + gs.length) (hc : (bkn (1 + n) gs).length = (ds.filter fun d => d.k == 4).length) (h4 : d.k = 4) : EI n m (gs ++ [none]) (es ++ [2 * (1 + n + gs.length)]) (ds ++ [d]) := fun row st S hr lr ls hS hb idx hi => by
  have hW : (dueL m row st ds).1.length = es.length := by rw [due_len, hl, hr]
  rw [due_snoc, show dueS m st (dueL m row st ds) d = ((dueL m row st ds).1 ++ [st.getD (dueL m row st ds).2 0], (dueL m row st ds).2 + 1) by unfold dueS; rw [if_pos h4]]
  rw [List.length_append, List.length_singleton] at hi
  by_cases hlt : idx < es.length
  · rw [getD_left hlt, getD_left (by omega)]
    have hm := ee (es.getD idx 0) (by rw [← getD_at hlt]; exact List.getElem_mem hlt)
    rw [sdo_grow (by rw [hr]; exact hm)]
    refine h row st S hr lr ls hS (fun b j hbj => hb b j ?_) idx hlt
    rw [bkn_snocB, List.getElem?_append_left (List.getElem?_eq_some_iff.mp hbj).1]
    exact hbj
  · have he : idx = es.length := by omega
    rw [getD_end he, getD_end (by omega), due_count, ← hc]
    subst hr
    rw [Wx_bx (i := gs.length) (by simp)]
    refine hb _ _ ?_
    rw [bkn_snocB, List.getElem?_append_right (Nat.le_refl _), Nat.sub_self]
    rfl
theorem EI_gate {n m c : Nat} {gs gs' : List Cn} {es : List Nat} {ds : List Dd} {d : Dd} {e : Nat} (h : EI n m gs es ds) (hl : es.length = 2 + n + ds.length) (ee : ∀ e ∈ es, e / 2 < 1 + n + gs.length) (h4 : d.k ≠ 4) (ha : d.a.1 < es.length) (hb' : d.b.1 < es.length) (hc : d.c.1 < es.length) (md : Mdo (1 + n) c gs gs' e (vK d.k (eV es d.a) (eV es d.b) (eV es d.c))) : EI n m gs' (es ++ [e]) (ds ++ [d]) := fun row st S hr lr ls hS hb idx hi => by
  have hW : (dueL m row st ds).1.length = es.length := by rw [due_len, hl, hr]
  rw [due_snoc, show dueS m st (dueL m row st ds) d = ((dueL m row st ds).1 ++ [opV m d.k (wV m (dueL m row st ds).1 d.a) (wV m (dueL m row st ds).1 d.b) (wV m (dueL m row st ds).1 d.c)], (dueL m row st ds).2) by unfold dueS; rw [if_neg h4]]
  rw [List.length_append, List.length_singleton] at hi
  obtain ⟨t, et, _⟩ := md.grow
  have hb0 : ∀ (b j : Nat), (bkn (1 + n) gs)[b]? = some j → S j = st.getD b 0 := fun b j hbj => hb b j (by rw [et, bkn_gates]; exact hbj)
  by_cases hlt : idx < es.length
  · rw [getD_left hlt, getD_left (by omega)]
    have hm := ee (es.getD idx 0) (by rw [← getD_at hlt]; exact List.getElem_mem hlt)
    rw [md.old (by rw [hr]) hm]
    exact h row st S hr lr ls hS hb0 idx hlt
  · rw [getD_end (by omega), getD_end (by omega), md.val m row S (by rw [hr]) lr hS]
    rw [← h.side hr lr ls hS hb0 ha, ← h.side hr lr ls hS hb0 hb', ← h.side hr lr ls hS hb0 hc]
    generalize d.k = k
    match k with
    | 0 => rfl
    | 1 => rfl
    | 2 => rfl
    | _ + 3 => rfl
def DvR (L : Nat) (H : Hp) (v : V) (o : Option Pk) : Prop := match o with | none => v = .non | some k => k.1 < L ∧ ∃ t, v = .ref t ∧ PkAt H t k
theorem DvR.keep {L : Nat} {H H' : Hp} {v : V} {o : Option Pk} (kt : KeepT H H') (h : DvR L H v o) : DvR L H' v o := by
  cases o with
  | none => exact h
  | some k =>
    obtain ⟨a, t, b, c⟩ := h
    exact ⟨a, t, b, kt _ _ c⟩
theorem dv_at {L : Nat} {H : Hp} {t : Addr} {k : Pk} {d : Int} (d0 : 0 ≤ d) (d1 : d < 4) (hk : k.1 < L) (hR : PkAt H t k) : ∃ (v : V) (o : Option Pk), atI ([.ref t, .ref t, .ref t, .non] : List V) d = some v ∧ DvR L H v o := by
  have : d = 0 ∨ d = 1 ∨ d = 2 ∨ d = 3 := by omega
  rcases this with rfl | rfl | rfl | rfl
  · exact ⟨.ref t, some k, rfl, hk, t, rfl, hR⟩
  · exact ⟨.ref t, some k, rfl, hk, t, rfl, hR⟩
  · exact ⟨.ref t, some k, rfl, hk, t, rfl, hR⟩
  · exact ⟨.non, none, rfl, rfl⟩
theorem dv_none {L : Nat} {H : Hp} : ∀ {c : Nat}, Paired (DvR L H) (List.replicate c V.non) (List.replicate c none)
  | 0 => .nil
  | c + 1 => .cons (show DvR L H V.non none from rfl) (dv_none (c := c))
theorem eLt_of {es : List Nat} {M : Nat} {k : Pk} (ee : ∀ e ∈ es, e / 2 < M) (hk : k.1 < es.length) : eV es k / 2 < M := by
  have h1 := ee (es.getD k.1 0) (by rw [← getD_at hk]; exact List.getElem_mem hk)
  unfold eV
  split
  · rw [x1_div]; exact h1
  · exact h1
theorem bxo_fst {pl : List Nat} {DV : Nat → Option Nat} {fs : List Int} {ks : List Nat} (h : fs.length = ks.length) : (bxo pl DV fs ks).map Prod.fst = fs := by
  unfold bxo
  rw [List.map_map]
  exact List.map_fst_zip (by omega)
structure RunPre (H : Hp) (wk bb gg oo pd po pv prs : Addr) (n m : Nat) (gs : List Cn) (pl : List Nat) (DV : Nat → Option Nat) (fs : List Nat) (rs ts : List Addr) (ds : List Dd) (es : List Nat) (outs : List Pk) (vs : List V) (dv : List (Option Pk)) (rr : List Addr) (rows : List (List Nat)) : Prop where
  hW : IsWkA H wk bb gg oo ⟨n, bxi (bxo pl DV (cN fs) (bkn (1 + n) gs)), (gpl pl gs).map ci, cN ((outs.map (eV es)).map (pe pl))⟩
  hP : Plc n gs gs.length pl
  ok : COk (1 + n) gs
  hD : DdsAt H pd rs ds
  dk : DOk n ds
  dl : ds.length ≤ 100
  hf : fs = (ds.filter fun d => d.k == 4).map Dd.f
  hb : (bkn (1 + n) gs).length = fs.length
  ho : H po = some (.lst (ts.map V.ref)) ∧ Paired (PkAt H) ts outs
  ol : outs.length ≤ 100
  ok2 : ∀ x ∈ outs, x.1 < es.length
  el : es.length = 2 + n + ds.length
  ee : ∀ e ∈ es, e / 2 < 1 + n + gs.length
  hv : H pv = some (.lst vs) ∧ Paired (DvR es.length H) vs dv
  vl : dv.length = fs.length
  hDV : ∀ (b k : Nat), (bkn (1 + n) gs)[b]? = some k → DV k = (dv.getD b none).map (eV es)
  hR : H prs = some (.lst (rr.map V.ref)) ∧ Paired (fun r row => H r = some (.lst (nV row)) ∧ row.length = n ∧ Low m row) rr rows
  rl : rows.length ≤ 100
  nn : n ≤ 100
  gl : gs.length ≤ 1000
  ei : EI n m gs es ds
def sp_runs : Sp := fun vs H Q _ => ∃ (wk bb gg oo pd po pv prs : Addr) (n m : Nat) (gs : List Cn) (pl : List Nat) (DV : Nat → Option Nat) (fs : List Nat) (rs ts : List Addr) (ds : List Dd) (es : List Nat) (outs : List Pk) (vv : List V) (dv : List (Option Pk)) (rr : List Addr) (rows : List (List Nat)), vs = [.ref wk, .ref pd, .ref po, .ref pv, .ref prs, .int ((2 ^ m - 1 : Nat) : Int)] ∧ RunPre H wk bb gg oo pd po pv prs n m gs pl DV fs rs ts ds es outs vv dv rr rows ∧ ∀ H', Same H H' → Q (.bl true) H'
/-- the next stand, as it is due -/
def nxt (m : Nat) (W : List Nat) (p : Nat × Option Pk) : Nat := match p.2 with | none => p.1 | some k => wV m W k
section
variable {H : Hp} {wk bb gg oo pd po pv prs : Addr} {n m : Nat} {gs : List Cn} {pl : List Nat} {DV : Nat → Option Nat} {fs : List Nat} {rs ts : List Addr} {ds : List Dd} {es : List Nat} {outs : List Pk} {vs : List V} {dv : List (Option Pk)} {rr : List Addr} {rows : List (List Nat)}
theorem RunPre.eLt (R : RunPre H wk bb gg oo pd po pv prs n m gs pl DV fs rs ts ds es outs vs dv rr rows) {k : Pk} (hk : k.1 < es.length) : eV es k / 2 < 1 + n + gs.length := by
  have h1 := R.ee (es.getD k.1 0) (by rw [← getD_at hk]; exact List.getElem_mem hk)
  unfold eV
  split
  · rw [x1_div]; exact h1
  · exact h1
theorem RunPre.out (R : RunPre H wk bb gg oo pd po pv prs n m gs pl DV fs rs ts ds es outs vs dv rr rows) {row st : List Nat} (hr : row.length = n) (lr : Low m row) (ls : Low m st) (hst : st.length = fs.length) : ((outs.map (eV es)).map (pe pl)).map (sdN m (Wv m (row ++ st) (gpl pl gs))) = outs.map (wV m (dueL m row st ds).1) := by
  obtain ⟨S, hS, hL⟩ := exS (bkn (1 + n) gs) st (bkn_inj gs (1 + n))
  rw [List.map_map, List.map_map]
  refine List.map_congr_left fun k hk => ?_
  show sdN m (Wv m (row ++ st) (gpl pl gs)) (pe pl (eV es k)) = _
  rw [R.hP.side R.ok hr (by rw [R.hb]; exact hst) hS (R.eLt (R.ok2 k hk))]
  exact R.ei.side hr lr ls (hL m ls) hS (R.ok2 k hk)
theorem RunPre.dvAt (R : RunPre H wk bb gg oo pd po pv prs n m gs pl DV fs rs ts ds es outs vs dv rr rows) {b : Nat} {k : Pk} (h : dv[b]? = some (some k)) : k.1 < es.length := by
  have hl := Paired.length R.hv.2
  have hb := (List.getElem?_eq_some_iff.mp h).1
  obtain ⟨o, ho, hR⟩ := Paired.at R.hv.2 (List.getElem?_eq_getElem (show b < vs.length by omega))
  rw [h] at ho
  cases ho
  exact hR.1
theorem RunPre.next (R : RunPre H wk bb gg oo pd po pv prs n m gs pl DV fs rs ts ds es outs vs dv rr rows) {row st : List Nat} (hr : row.length = n) (lr : Low m row) (ls : Low m st) (hst : st.length = fs.length) : ((bxo pl DV (cN fs) (bkn (1 + n) gs)).map Prod.snd).map (sdN m (Wv m (row ++ st) (gpl pl gs))) = (st.zip dv).map (nxt m (dueL m row st ds).1) := by
  obtain ⟨S, hS, hL⟩ := exS (bkn (1 + n) gs) st (bkn_inj gs (1 + n))
  have hb := R.hb
  have vl := R.vl
  refine List.ext_getElem? fun b => ?_
  by_cases hbl : b < fs.length
  · have hk : (bkn (1 + n) gs)[b]? = some ((bkn (1 + n) gs)[b]'(by omega)) := List.getElem?_eq_getElem _
    generalize (bkn (1 + n) gs)[b]'(by omega) = kk at hk
    obtain ⟨i, ei, ci'⟩ := bkn_at _ _ _ _ hk
    have hil := (List.getElem?_eq_some_iff.mp ci').1
    have hd : dv[b]? = some (dv[b]'(by omega)) := List.getElem?_eq_getElem _
    generalize dv[b]'(by omega) = o at hd
    have hs : st[b]? = some (st.getD b 0) := by rw [List.getElem?_eq_getElem (show b < st.length by omega), getD_at]
    unfold bxo
    rw [List.getElem?_map, List.getElem?_map, List.getElem?_map, (List.getElem?_zip_eq_some (z := ((fs[b] : Int), kk))).mpr ⟨by unfold cN; rw [List.getElem?_map, List.getElem?_eq_getElem hbl]; rfl, hk⟩, List.getElem?_map, (List.getElem?_zip_eq_some (z := (st.getD b 0, o))).mpr ⟨hs, hd⟩]
    show some (sdN m (Wv m (row ++ st) (gpl pl gs)) (pe pl ((DV kk).getD (2 * kk)))) = some (nxt m (dueL m row st ds).1 (st.getD b 0, o))
    have hDV := R.hDV b kk hk
    rw [show dv.getD b none = o by rw [List.getD_eq_getElem?_getD, hd]; rfl] at hDV
    rw [hDV]
    congr 1
    cases o with
    | none =>
      show sdN m (Wv m (row ++ st) (gpl pl gs)) (pe pl (2 * kk)) = st.getD b 0
      rw [R.hP.side R.ok hr (by rw [R.hb]; exact hst) hS (by omega)]
      subst hr
      rw [ei, Wx_bx ci', ← ei]
      exact hS b kk hk
    | some k =>
      show sdN m (Wv m (row ++ st) (gpl pl gs)) (pe pl (eV es k)) = wV m (dueL m row st ds).1 k
      rw [R.hP.side R.ok hr (by rw [R.hb]; exact hst) hS (R.eLt (R.dvAt hd))]
      exact R.ei.side hr lr ls (hL m ls) hS (R.dvAt hd)
  · unfold bxo cN
    rw [List.getElem?_eq_none (by simp only [List.length_map, List.length_zip]; omega), List.getElem?_eq_none (by simp only [List.length_map, List.length_zip]; omega)]
theorem RunPre.same {H' : Hp} (R : RunPre H wk bb gg oo pd po pv prs n m gs pl DV fs rs ts ds es outs vs dv rr rows) (s : Same H H') : RunPre H' wk bb gg oo pd po pv prs n m gs pl DV fs rs ts ds es outs vs dv rr rows :=
  { R with hW := R.hW.same s, hD := R.hD.same s, ho := ⟨s _ _ R.ho.1, pairedMono (fun _ _ z => s _ _ z) R.ho.2⟩, hv := ⟨s _ _ R.hv.1, pairedMono (fun v o z => DvR.keep (KeepT.same s) z) R.hv.2⟩, hR := ⟨s _ _ R.hR.1, pairedMono (fun _ _ z => ⟨s _ _ z.1, z.2⟩) R.hR.2⟩ }
end

/-- what the top has written -/
structure Tx (w : World) (K : PySem.W.Frag) (mg : Str → Option Value) (A : Ad) : Prop where
  all : mg "all" = none
  bool : mg "bool" = none
  enumerate : mg "enumerate" = none
  int : mg "int" = none
  isinstance : mg "isinstance" = none
  len : mg "len" = none
  list : mg "list" = none
  max : mg "max" = none
  min : mg "min" = none
  range : mg "range" = none
  tuple : mg "tuple" = none
  zip : mg "zip" = none
  F_Bench_init : Fun K "__init__" "Bench.__init__" s_Bench_init A.a_Bench_init A.d_Bench_init
  B_Bench_init : Binds K A.d_Bench_init ["self", "ins"] []
  mk_Bench : Mk K A.c_Bench A.a_Bench_init
  F_Bench_into : Fun K "into" "Bench.into" s_Bench_into A.a_Bench_into A.d_Bench_into
  B_Bench_into : Binds K A.d_Bench_into ["self", "k"] []
  me_Bench_into : Meth K A.c_Bench "into" A.a_Bench_into
  F_Bench_box : Fun K "box" "Bench.box" s_Bench_box A.a_Bench_box A.d_Bench_box
  B_Bench_box : Binds K A.d_Bench_box ["self", "first"] []
  me_Bench_box : Meth K A.c_Bench "box" A.a_Bench_box
  F_Bench_new_knot : Fun K "new_knot" "Bench.new_knot" s_Bench_new_knot A.a_Bench_new_knot A.d_Bench_new_knot
  B_Bench_new_knot : Binds K A.d_Bench_new_knot ["self"] []
  me_Bench_new_knot : Meth K A.c_Bench "new_knot" A.a_Bench_new_knot
  F_Bench_drive : Fun K "drive" "Bench.drive" s_Bench_drive A.a_Bench_drive A.d_Bench_drive
  B_Bench_drive : Binds K A.d_Bench_drive ["self", "box", "end"] []
  me_Bench_drive : Meth K A.c_Bench "drive" A.a_Bench_drive
  F_Bench_both : Fun K "both" "Bench.both" s_Bench_both A.a_Bench_both A.d_Bench_both
  B_Bench_both : Binds K A.d_Bench_both ["self", "a", "b"] []
  me_Bench_both : Meth K A.c_Bench "both" A.a_Bench_both
  F_Bench_either : Fun K "either" "Bench.either" s_Bench_either A.a_Bench_either A.d_Bench_either
  B_Bench_either : Binds K A.d_Bench_either ["self", "a", "b"] []
  me_Bench_either : Meth K A.c_Bench "either" A.a_Bench_either
  F_Bench_odd : Fun K "odd" "Bench.odd" s_Bench_odd A.a_Bench_odd A.d_Bench_odd
  B_Bench_odd : Binds K A.d_Bench_odd ["self", "a", "b"] []
  me_Bench_odd : Meth K A.c_Bench "odd" A.a_Bench_odd
  F_Bench_choice : Fun K "choice" "Bench.choice" s_Bench_choice A.a_Bench_choice A.d_Bench_choice
  B_Bench_choice : Binds K A.d_Bench_choice ["self", "c", "a", "b"] []
  me_Bench_choice : Meth K A.c_Bench "choice" A.a_Bench_choice
  F_Bench_work : Fun K "work" "Bench.work" s_Bench_work A.a_Bench_work A.d_Bench_work
  B_Bench_work : Binds K A.d_Bench_work ["self", "outs"] []
  me_Bench_work : Meth K A.c_Bench "work" A.a_Bench_work
  F_both_without_gate : Fun K "both_without_gate" "both_without_gate" s_both_without_gate A.a_both_without_gate A.d_both_without_gate
  B_both_without_gate : Binds K A.d_both_without_gate ["a", "b"] []
  M_both_without_gate : mg "both_without_gate" = some (.ref A.a_both_without_gate)
  F_placed : Fun K "placed" "placed" s_placed A.a_placed A.d_placed
  B_placed : Binds K A.d_placed ["places", "end"] []
  M_placed : mg "placed" = some (.ref A.a_placed)
  F_L_cell_at : Fun K "_law_cell_at" "_law_cell_at" s_L_cell_at A.a_L_cell_at A.d_L_cell_at
  B_L_cell_at : Binds K A.d_L_cell_at ["_law_script", "_law_k"] []
  M_L_cell_at : mg "_law_cell_at" = some (.ref A.a_L_cell_at)
  F_L_bag : Fun K "_law_bag" "_law_bag" s_L_bag A.a_L_bag A.d_L_bag
  B_L_bag : Binds K A.d_L_bag ["_law_script", "_law_k"] []
  M_L_bag : mg "_law_bag" = some (.ref A.a_L_bag)
  F_L_take : Fun K "_law_take" "_law_take" s_L_take A.a_L_take A.d_L_take
  B_L_take : Binds K A.d_L_take ["_law_bag_here", "_law_many"] []
  M_L_take : mg "_law_take" = some (.ref A.a_L_take)
  F_L_whole : Fun K "_law_whole" "_law_whole" s_L_whole A.a_L_whole A.d_L_whole
  B_L_whole : Binds K A.d_L_whole ["_law_found"] []
  M_L_whole : mg "_law_whole" = some (.ref A.a_L_whole)
  F_L_ends : Fun K "_law_ends" "_law_ends" s_L_ends A.a_L_ends A.d_L_ends
  B_L_ends : Binds K A.d_L_ends ["_law_some", "_law_knots"] []
  M_L_ends : mg "_law_ends" = some (.ref A.a_L_ends)
  F_L_formed : Fun K "_law_formed" "_law_formed" s_L_formed A.a_L_formed A.d_L_formed
  B_L_formed : Binds K A.d_L_formed ["_law_work", "_law_ins", "_law_firsts", "_law_outs"] []
  M_L_formed : mg "_law_formed" = some (.ref A.a_L_formed)
  F_L_side : Fun K "_law_side" "_law_side" s_L_side A.a_L_side A.d_L_side
  B_L_side : Binds K A.d_L_side ["_law_worths", "_law_end_here", "_law_ones"] []
  M_L_side : mg "_law_side" = some (.ref A.a_L_side)
  F_L_beat : Fun K "_law_beat" "_law_beat" s_L_beat A.a_L_beat A.d_L_beat
  B_L_beat : Binds K A.d_L_beat ["_law_work", "_law_stand", "_law_row", "_law_ones"] []
  M_L_beat : mg "_law_beat" = some (.ref A.a_L_beat)
  F_L_pick : Fun K "_law_pick" "_law_pick" s_L_pick A.a_L_pick A.d_L_pick
  B_L_pick : Binds K A.d_L_pick ["_law_bag_here", "_law_many"] []
  M_L_pick : mg "_law_pick" = some (.ref A.a_L_pick)
  F_L_end : Fun K "_law_end" "_law_end" s_L_end A.a_L_end A.d_L_end
  B_L_end : Binds K A.d_L_end ["_law_ends_here", "_law_pick_here"] []
  M_L_end : mg "_law_end" = some (.ref A.a_L_end)
  F_L_told : Fun K "_law_told" "_law_told" s_L_told A.a_L_told A.d_L_told
  B_L_told : Binds K A.d_L_told ["_law_bench", "_law_deed", "_law_ends_here"] []
  M_L_told : mg "_law_told" = some (.ref A.a_L_told)
  F_L_worth : Fun K "_law_worth" "_law_worth" s_L_worth A.a_L_worth A.d_L_worth
  B_L_worth : Binds K A.d_L_worth ["_law_worths", "_law_pick_here", "_law_ones"] []
  M_L_worth : mg "_law_worth" = some (.ref A.a_L_worth)
  F_L_due : Fun K "_law_due" "_law_due" s_L_due A.a_L_due A.d_L_due
  B_L_due : Binds K A.d_L_due ["_law_deeds_here", "_law_stand", "_law_row", "_law_ones"] []
  M_L_due : mg "_law_due" = some (.ref A.a_L_due)
  F_L_deeds : Fun K "_law_deeds" "_law_deeds" s_L_deeds A.a_L_deeds A.d_L_deeds
  B_L_deeds : Binds K A.d_L_deeds ["_law_bag_here", "_law_ins", "_law_many"] []
  M_L_deeds : mg "_law_deeds" = some (.ref A.a_L_deeds)
  F_L_runs : Fun K "_law_runs" "_law_runs" s_L_runs A.a_L_runs A.d_L_runs
  B_L_runs : Binds K A.d_L_runs ["_law_work", "_law_deeds_here", "_law_outs", "_law_driven", "_law_rows", "_law_ones"] []
  M_L_runs : mg "_law_runs" = some (.ref A.a_L_runs)
  F_law : Fun K "law" "law" s_law A.a_law A.d_law
  B_law : Binds K A.d_law ["_law_script"] []
  M_law : mg "law" = some (.ref A.a_law)
  cl_Bench : Cls K A.c_Bench
  M_Bench : mg "Bench" = some (.ref A.c_Bench)
  n_Bench_ins : NoAttr K A.c_Bench "ins"
  n_Bench_knots : NoAttr K A.c_Bench "knots"
  n_Bench_firsts : NoAttr K A.c_Bench "firsts"
  n_Bench_box_knots : NoAttr K A.c_Bench "box_knots"
  n_Bench_drivers : NoAttr K A.c_Bench "drivers"
  n_Bench_gates : NoAttr K A.c_Bench "gates"
  n_Bench_gate_knots : NoAttr K A.c_Bench "gate_knots"
  n_Bench_known_gates : NoAttr K A.c_Bench "known_gates"
section
variable {P : Program} {w : World} {K : PySem.W.Frag} {mg : Str → Option Value} {base : Heap} {A : Ad}
seal L2.PE L2.PA L2.PT L2.PS L2.PSs
theorem ok_Bench_init (T : Tx w K mg A) : FnOk P w K mg base CX0 1 A.a_Bench_init A.d_Bench_init ["self", "ins"] (sp_B_init A.c_Bench) := by
  refine T.F_Bench_init.ok sc_Bench_init (fun vs H Q E h => ?_) (fun cdv A' outer s H vs Q E hr h => ?_)
  · obtain ⟨o, dx, n, rfl, ho0, q⟩ := h
    rfl
  obtain ⟨o, dx, n, rfl, ho0, q⟩ := h
  refine ⟨_, (pss_cons (ps_fld (pv 0) (pv 1) rfl)
    (pss_cons (ps_fld (pv 0) (pe_op op_add pe_int (pv 1)) rfl)
    (pss_cons (ps_fld (pv 0) (pe_lst pa_nil) rfl)
    (pss_cons (ps_fld (pv 0) (pe_lst pa_nil) rfl)
    (pss_cons (ps_fld (pv 0) pe_dnewK rfl)
    (pss_cons (ps_fld (pv 0) (pe_lst pa_nil) rfl)
    (pss_cons (ps_fld (pv 0) (pe_lst pa_nil) rfl)
    (pss_one (ps_fld (pv 0) pe_dnewT rfl))))))))), ?_⟩
  have hk0 : ∀ a u, a ≠ o → H a = some u → H a = some u := fun _ _ _ e => e
  refine ⟨_, rfl, _, rfl, o, A.c_Bench, dx, [], rfl, ho0, T.cl_Bench, T.n_Bench_ins, by decide, ?_⟩
  have ho1 : (upd H o (.ins A.c_Bench dx [(("ins" : Str), V.int (n : Int))])) o = some (.ins A.c_Bench dx [(("ins" : Str), V.int (n : Int))]) := upd_same
  have hk1 : ∀ a u, a ≠ o → H a = some u → (upd H o (.ins A.c_Bench dx [(("ins" : Str), V.int (n : Int))])) a = some u := fun a u na e => by rw [upd_ne na]; exact hk0 a u na e
  show tSeq _ _ _ _ (upd H o (.ins A.c_Bench dx [(("ins" : Str), V.int (n : Int))]))
  generalize upd H o (.ins A.c_Bench dx [(("ins" : Str), V.int (n : Int))]) = H1 at ho1 hk1 ⊢
  refine ⟨_, rfl, _, _, rfl, rfl, _, rfl, o, A.c_Bench, dx, [(("ins" : Str), V.int (n : Int))], rfl, ho1, T.cl_Bench, T.n_Bench_knots, (by show 1 < 1000; decide), ?_⟩
  have ho2 : (upd H1 o (.ins A.c_Bench dx [(("ins" : Str), V.int (n : Int)), (("knots" : Str), V.int (1 + (n : Int)))])) o = some (.ins A.c_Bench dx [(("ins" : Str), V.int (n : Int)), (("knots" : Str), V.int (1 + (n : Int)))]) := upd_same
  have hk2 : ∀ a u, a ≠ o → H a = some u → (upd H1 o (.ins A.c_Bench dx [(("ins" : Str), V.int (n : Int)), (("knots" : Str), V.int (1 + (n : Int)))])) a = some u := fun a u na e => by rw [upd_ne na]; exact hk1 a u na e
  show tSeq _ _ _ _ (upd H1 o (.ins A.c_Bench dx [(("ins" : Str), V.int (n : Int)), (("knots" : Str), V.int (1 + (n : Int)))]))
  generalize upd H1 o (.ins A.c_Bench dx [(("ins" : Str), V.int (n : Int)), (("knots" : Str), V.int (1 + (n : Int)))]) = H2 at ho2 hk2 ⊢
  refine ⟨(by show 0 ≤ sizeLine; decide), fun p2 hp2 => ?_⟩
  have np2 : p2 ≠ o := (ne_of_none ho2 hp2).symm
  have hpH2 : H p2 = none := by
    cases hh : H p2 with
    | none => rfl
    | some u => rw [hk2 _ u np2 hh] at hp2; cases hp2
  refine ⟨_, rfl, o, A.c_Bench, dx, [(("ins" : Str), V.int (n : Int)), (("knots" : Str), V.int (1 + (n : Int)))], rfl, (by rw [upd_ne (Ne.symm np2)]; exact ho2), T.cl_Bench, T.n_Bench_firsts, (by show 2 < 1000; decide), ?_⟩
  have ho3 : (upd (upd H2 p2 (.lst [])) o (.ins A.c_Bench dx [(("ins" : Str), V.int (n : Int)), (("knots" : Str), V.int (1 + (n : Int))), (("firsts" : Str), V.ref p2)])) o = some (.ins A.c_Bench dx [(("ins" : Str), V.int (n : Int)), (("knots" : Str), V.int (1 + (n : Int))), (("firsts" : Str), V.ref p2)]) := upd_same
  have hk3 : ∀ a u, a ≠ o → H a = some u → (upd (upd H2 p2 (.lst [])) o (.ins A.c_Bench dx [(("ins" : Str), V.int (n : Int)), (("knots" : Str), V.int (1 + (n : Int))), (("firsts" : Str), V.ref p2)])) a = some u := fun a u na e => by rw [upd_ne na, upd_ne (ne_of_none (hk2 a u na e) hp2)]; exact hk2 a u na e
  have f2_3 : (upd (upd H2 p2 (.lst [])) o (.ins A.c_Bench dx [(("ins" : Str), V.int (n : Int)), (("knots" : Str), V.int (1 + (n : Int))), (("firsts" : Str), V.ref p2)])) p2 = some (.lst []) := by rw [upd_ne np2, upd_same]
  show tSeq _ _ _ _ (upd (upd H2 p2 (.lst [])) o (.ins A.c_Bench dx [(("ins" : Str), V.int (n : Int)), (("knots" : Str), V.int (1 + (n : Int))), (("firsts" : Str), V.ref p2)]))
  generalize upd (upd H2 p2 (.lst [])) o (.ins A.c_Bench dx [(("ins" : Str), V.int (n : Int)), (("knots" : Str), V.int (1 + (n : Int))), (("firsts" : Str), V.ref p2)]) = H3 at ho3 hk3 f2_3 ⊢
  refine ⟨(by show 0 ≤ sizeLine; decide), fun p3 hp3 => ?_⟩
  have np3 : p3 ≠ o := (ne_of_none ho3 hp3).symm
  have hpH3 : H p3 = none := by
    cases hh : H p3 with
    | none => rfl
    | some u => rw [hk3 _ u np3 hh] at hp3; cases hp3
  refine ⟨_, rfl, o, A.c_Bench, dx, [(("ins" : Str), V.int (n : Int)), (("knots" : Str), V.int (1 + (n : Int))), (("firsts" : Str), V.ref p2)], rfl, (by rw [upd_ne (Ne.symm np3)]; exact ho3), T.cl_Bench, T.n_Bench_box_knots, (by show 3 < 1000; decide), ?_⟩
  have ho4 : (upd (upd H3 p3 (.lst [])) o (.ins A.c_Bench dx [(("ins" : Str), V.int (n : Int)), (("knots" : Str), V.int (1 + (n : Int))), (("firsts" : Str), V.ref p2), (("box_knots" : Str), V.ref p3)])) o = some (.ins A.c_Bench dx [(("ins" : Str), V.int (n : Int)), (("knots" : Str), V.int (1 + (n : Int))), (("firsts" : Str), V.ref p2), (("box_knots" : Str), V.ref p3)]) := upd_same
  have hk4 : ∀ a u, a ≠ o → H a = some u → (upd (upd H3 p3 (.lst [])) o (.ins A.c_Bench dx [(("ins" : Str), V.int (n : Int)), (("knots" : Str), V.int (1 + (n : Int))), (("firsts" : Str), V.ref p2), (("box_knots" : Str), V.ref p3)])) a = some u := fun a u na e => by rw [upd_ne na, upd_ne (ne_of_none (hk3 a u na e) hp3)]; exact hk3 a u na e
  have f3_4 : (upd (upd H3 p3 (.lst [])) o (.ins A.c_Bench dx [(("ins" : Str), V.int (n : Int)), (("knots" : Str), V.int (1 + (n : Int))), (("firsts" : Str), V.ref p2), (("box_knots" : Str), V.ref p3)])) p3 = some (.lst []) := by rw [upd_ne np3, upd_same]
  have f2_4 : (upd (upd H3 p3 (.lst [])) o (.ins A.c_Bench dx [(("ins" : Str), V.int (n : Int)), (("knots" : Str), V.int (1 + (n : Int))), (("firsts" : Str), V.ref p2), (("box_knots" : Str), V.ref p3)])) p2 = some (.lst []) := by rw [upd_ne np2, upd_ne (ne_of_none f2_3 hp3)]; exact f2_3
  have d3_2 : p3 ≠ p2 := (ne_of_none f2_3 hp3).symm
  show tSeq _ _ _ _ (upd (upd H3 p3 (.lst [])) o (.ins A.c_Bench dx [(("ins" : Str), V.int (n : Int)), (("knots" : Str), V.int (1 + (n : Int))), (("firsts" : Str), V.ref p2), (("box_knots" : Str), V.ref p3)]))
  generalize upd (upd H3 p3 (.lst [])) o (.ins A.c_Bench dx [(("ins" : Str), V.int (n : Int)), (("knots" : Str), V.int (1 + (n : Int))), (("firsts" : Str), V.ref p2), (("box_knots" : Str), V.ref p3)]) = H4 at ho4 hk4 f2_4 f3_4 ⊢
  refine fun p4 hp4 => ?_
  have np4 : p4 ≠ o := (ne_of_none ho4 hp4).symm
  have hpH4 : H p4 = none := by
    cases hh : H p4 with
    | none => rfl
    | some u => rw [hk4 _ u np4 hh] at hp4; cases hp4
  refine ⟨_, rfl, o, A.c_Bench, dx, [(("ins" : Str), V.int (n : Int)), (("knots" : Str), V.int (1 + (n : Int))), (("firsts" : Str), V.ref p2), (("box_knots" : Str), V.ref p3)], rfl, (by rw [upd_ne (Ne.symm np4)]; exact ho4), T.cl_Bench, T.n_Bench_drivers, (by show 4 < 1000; decide), ?_⟩
  have ho5 : (upd (upd H4 p4 (.dK [])) o (.ins A.c_Bench dx [(("ins" : Str), V.int (n : Int)), (("knots" : Str), V.int (1 + (n : Int))), (("firsts" : Str), V.ref p2), (("box_knots" : Str), V.ref p3), (("drivers" : Str), V.ref p4)])) o = some (.ins A.c_Bench dx [(("ins" : Str), V.int (n : Int)), (("knots" : Str), V.int (1 + (n : Int))), (("firsts" : Str), V.ref p2), (("box_knots" : Str), V.ref p3), (("drivers" : Str), V.ref p4)]) := upd_same
  have hk5 : ∀ a u, a ≠ o → H a = some u → (upd (upd H4 p4 (.dK [])) o (.ins A.c_Bench dx [(("ins" : Str), V.int (n : Int)), (("knots" : Str), V.int (1 + (n : Int))), (("firsts" : Str), V.ref p2), (("box_knots" : Str), V.ref p3), (("drivers" : Str), V.ref p4)])) a = some u := fun a u na e => by rw [upd_ne na, upd_ne (ne_of_none (hk4 a u na e) hp4)]; exact hk4 a u na e
  have f4_5 : (upd (upd H4 p4 (.dK [])) o (.ins A.c_Bench dx [(("ins" : Str), V.int (n : Int)), (("knots" : Str), V.int (1 + (n : Int))), (("firsts" : Str), V.ref p2), (("box_knots" : Str), V.ref p3), (("drivers" : Str), V.ref p4)])) p4 = some (.dK []) := by rw [upd_ne np4, upd_same]
  have f2_5 : (upd (upd H4 p4 (.dK [])) o (.ins A.c_Bench dx [(("ins" : Str), V.int (n : Int)), (("knots" : Str), V.int (1 + (n : Int))), (("firsts" : Str), V.ref p2), (("box_knots" : Str), V.ref p3), (("drivers" : Str), V.ref p4)])) p2 = some (.lst []) := by rw [upd_ne np2, upd_ne (ne_of_none f2_4 hp4)]; exact f2_4
  have d4_2 : p4 ≠ p2 := (ne_of_none f2_4 hp4).symm
  have f3_5 : (upd (upd H4 p4 (.dK [])) o (.ins A.c_Bench dx [(("ins" : Str), V.int (n : Int)), (("knots" : Str), V.int (1 + (n : Int))), (("firsts" : Str), V.ref p2), (("box_knots" : Str), V.ref p3), (("drivers" : Str), V.ref p4)])) p3 = some (.lst []) := by rw [upd_ne np3, upd_ne (ne_of_none f3_4 hp4)]; exact f3_4
  have d4_3 : p4 ≠ p3 := (ne_of_none f3_4 hp4).symm
  show tSeq _ _ _ _ (upd (upd H4 p4 (.dK [])) o (.ins A.c_Bench dx [(("ins" : Str), V.int (n : Int)), (("knots" : Str), V.int (1 + (n : Int))), (("firsts" : Str), V.ref p2), (("box_knots" : Str), V.ref p3), (("drivers" : Str), V.ref p4)]))
  generalize upd (upd H4 p4 (.dK [])) o (.ins A.c_Bench dx [(("ins" : Str), V.int (n : Int)), (("knots" : Str), V.int (1 + (n : Int))), (("firsts" : Str), V.ref p2), (("box_knots" : Str), V.ref p3), (("drivers" : Str), V.ref p4)]) = H5 at ho5 hk5 f2_5 f3_5 f4_5 ⊢
  refine ⟨(by show 0 ≤ sizeLine; decide), fun p5 hp5 => ?_⟩
  have np5 : p5 ≠ o := (ne_of_none ho5 hp5).symm
  have hpH5 : H p5 = none := by
    cases hh : H p5 with
    | none => rfl
    | some u => rw [hk5 _ u np5 hh] at hp5; cases hp5
  refine ⟨_, rfl, o, A.c_Bench, dx, [(("ins" : Str), V.int (n : Int)), (("knots" : Str), V.int (1 + (n : Int))), (("firsts" : Str), V.ref p2), (("box_knots" : Str), V.ref p3), (("drivers" : Str), V.ref p4)], rfl, (by rw [upd_ne (Ne.symm np5)]; exact ho5), T.cl_Bench, T.n_Bench_gates, (by show 5 < 1000; decide), ?_⟩
  have ho6 : (upd (upd H5 p5 (.lst [])) o (.ins A.c_Bench dx [(("ins" : Str), V.int (n : Int)), (("knots" : Str), V.int (1 + (n : Int))), (("firsts" : Str), V.ref p2), (("box_knots" : Str), V.ref p3), (("drivers" : Str), V.ref p4), (("gates" : Str), V.ref p5)])) o = some (.ins A.c_Bench dx [(("ins" : Str), V.int (n : Int)), (("knots" : Str), V.int (1 + (n : Int))), (("firsts" : Str), V.ref p2), (("box_knots" : Str), V.ref p3), (("drivers" : Str), V.ref p4), (("gates" : Str), V.ref p5)]) := upd_same
  have hk6 : ∀ a u, a ≠ o → H a = some u → (upd (upd H5 p5 (.lst [])) o (.ins A.c_Bench dx [(("ins" : Str), V.int (n : Int)), (("knots" : Str), V.int (1 + (n : Int))), (("firsts" : Str), V.ref p2), (("box_knots" : Str), V.ref p3), (("drivers" : Str), V.ref p4), (("gates" : Str), V.ref p5)])) a = some u := fun a u na e => by rw [upd_ne na, upd_ne (ne_of_none (hk5 a u na e) hp5)]; exact hk5 a u na e
  have f5_6 : (upd (upd H5 p5 (.lst [])) o (.ins A.c_Bench dx [(("ins" : Str), V.int (n : Int)), (("knots" : Str), V.int (1 + (n : Int))), (("firsts" : Str), V.ref p2), (("box_knots" : Str), V.ref p3), (("drivers" : Str), V.ref p4), (("gates" : Str), V.ref p5)])) p5 = some (.lst []) := by rw [upd_ne np5, upd_same]
  have f2_6 : (upd (upd H5 p5 (.lst [])) o (.ins A.c_Bench dx [(("ins" : Str), V.int (n : Int)), (("knots" : Str), V.int (1 + (n : Int))), (("firsts" : Str), V.ref p2), (("box_knots" : Str), V.ref p3), (("drivers" : Str), V.ref p4), (("gates" : Str), V.ref p5)])) p2 = some (.lst []) := by rw [upd_ne np2, upd_ne (ne_of_none f2_5 hp5)]; exact f2_5
  have d5_2 : p5 ≠ p2 := (ne_of_none f2_5 hp5).symm
  have f3_6 : (upd (upd H5 p5 (.lst [])) o (.ins A.c_Bench dx [(("ins" : Str), V.int (n : Int)), (("knots" : Str), V.int (1 + (n : Int))), (("firsts" : Str), V.ref p2), (("box_knots" : Str), V.ref p3), (("drivers" : Str), V.ref p4), (("gates" : Str), V.ref p5)])) p3 = some (.lst []) := by rw [upd_ne np3, upd_ne (ne_of_none f3_5 hp5)]; exact f3_5
  have d5_3 : p5 ≠ p3 := (ne_of_none f3_5 hp5).symm
  have f4_6 : (upd (upd H5 p5 (.lst [])) o (.ins A.c_Bench dx [(("ins" : Str), V.int (n : Int)), (("knots" : Str), V.int (1 + (n : Int))), (("firsts" : Str), V.ref p2), (("box_knots" : Str), V.ref p3), (("drivers" : Str), V.ref p4), (("gates" : Str), V.ref p5)])) p4 = some (.dK []) := by rw [upd_ne np4, upd_ne (ne_of_none f4_5 hp5)]; exact f4_5
  have d5_4 : p5 ≠ p4 := (ne_of_none f4_5 hp5).symm
  show tSeq _ _ _ _ (upd (upd H5 p5 (.lst [])) o (.ins A.c_Bench dx [(("ins" : Str), V.int (n : Int)), (("knots" : Str), V.int (1 + (n : Int))), (("firsts" : Str), V.ref p2), (("box_knots" : Str), V.ref p3), (("drivers" : Str), V.ref p4), (("gates" : Str), V.ref p5)]))
  generalize upd (upd H5 p5 (.lst [])) o (.ins A.c_Bench dx [(("ins" : Str), V.int (n : Int)), (("knots" : Str), V.int (1 + (n : Int))), (("firsts" : Str), V.ref p2), (("box_knots" : Str), V.ref p3), (("drivers" : Str), V.ref p4), (("gates" : Str), V.ref p5)]) = H6 at ho6 hk6 f2_6 f3_6 f4_6 f5_6 ⊢
  refine ⟨(by show 0 ≤ sizeLine; decide), fun p6 hp6 => ?_⟩
  have np6 : p6 ≠ o := (ne_of_none ho6 hp6).symm
  have hpH6 : H p6 = none := by
    cases hh : H p6 with
    | none => rfl
    | some u => rw [hk6 _ u np6 hh] at hp6; cases hp6
  refine ⟨_, rfl, o, A.c_Bench, dx, [(("ins" : Str), V.int (n : Int)), (("knots" : Str), V.int (1 + (n : Int))), (("firsts" : Str), V.ref p2), (("box_knots" : Str), V.ref p3), (("drivers" : Str), V.ref p4), (("gates" : Str), V.ref p5)], rfl, (by rw [upd_ne (Ne.symm np6)]; exact ho6), T.cl_Bench, T.n_Bench_gate_knots, (by show 6 < 1000; decide), ?_⟩
  have ho7 : (upd (upd H6 p6 (.lst [])) o (.ins A.c_Bench dx [(("ins" : Str), V.int (n : Int)), (("knots" : Str), V.int (1 + (n : Int))), (("firsts" : Str), V.ref p2), (("box_knots" : Str), V.ref p3), (("drivers" : Str), V.ref p4), (("gates" : Str), V.ref p5), (("gate_knots" : Str), V.ref p6)])) o = some (.ins A.c_Bench dx [(("ins" : Str), V.int (n : Int)), (("knots" : Str), V.int (1 + (n : Int))), (("firsts" : Str), V.ref p2), (("box_knots" : Str), V.ref p3), (("drivers" : Str), V.ref p4), (("gates" : Str), V.ref p5), (("gate_knots" : Str), V.ref p6)]) := upd_same
  have hk7 : ∀ a u, a ≠ o → H a = some u → (upd (upd H6 p6 (.lst [])) o (.ins A.c_Bench dx [(("ins" : Str), V.int (n : Int)), (("knots" : Str), V.int (1 + (n : Int))), (("firsts" : Str), V.ref p2), (("box_knots" : Str), V.ref p3), (("drivers" : Str), V.ref p4), (("gates" : Str), V.ref p5), (("gate_knots" : Str), V.ref p6)])) a = some u := fun a u na e => by rw [upd_ne na, upd_ne (ne_of_none (hk6 a u na e) hp6)]; exact hk6 a u na e
  have f6_7 : (upd (upd H6 p6 (.lst [])) o (.ins A.c_Bench dx [(("ins" : Str), V.int (n : Int)), (("knots" : Str), V.int (1 + (n : Int))), (("firsts" : Str), V.ref p2), (("box_knots" : Str), V.ref p3), (("drivers" : Str), V.ref p4), (("gates" : Str), V.ref p5), (("gate_knots" : Str), V.ref p6)])) p6 = some (.lst []) := by rw [upd_ne np6, upd_same]
  have f2_7 : (upd (upd H6 p6 (.lst [])) o (.ins A.c_Bench dx [(("ins" : Str), V.int (n : Int)), (("knots" : Str), V.int (1 + (n : Int))), (("firsts" : Str), V.ref p2), (("box_knots" : Str), V.ref p3), (("drivers" : Str), V.ref p4), (("gates" : Str), V.ref p5), (("gate_knots" : Str), V.ref p6)])) p2 = some (.lst []) := by rw [upd_ne np2, upd_ne (ne_of_none f2_6 hp6)]; exact f2_6
  have d6_2 : p6 ≠ p2 := (ne_of_none f2_6 hp6).symm
  have f3_7 : (upd (upd H6 p6 (.lst [])) o (.ins A.c_Bench dx [(("ins" : Str), V.int (n : Int)), (("knots" : Str), V.int (1 + (n : Int))), (("firsts" : Str), V.ref p2), (("box_knots" : Str), V.ref p3), (("drivers" : Str), V.ref p4), (("gates" : Str), V.ref p5), (("gate_knots" : Str), V.ref p6)])) p3 = some (.lst []) := by rw [upd_ne np3, upd_ne (ne_of_none f3_6 hp6)]; exact f3_6
  have d6_3 : p6 ≠ p3 := (ne_of_none f3_6 hp6).symm
  have f4_7 : (upd (upd H6 p6 (.lst [])) o (.ins A.c_Bench dx [(("ins" : Str), V.int (n : Int)), (("knots" : Str), V.int (1 + (n : Int))), (("firsts" : Str), V.ref p2), (("box_knots" : Str), V.ref p3), (("drivers" : Str), V.ref p4), (("gates" : Str), V.ref p5), (("gate_knots" : Str), V.ref p6)])) p4 = some (.dK []) := by rw [upd_ne np4, upd_ne (ne_of_none f4_6 hp6)]; exact f4_6
  have d6_4 : p6 ≠ p4 := (ne_of_none f4_6 hp6).symm
  have f5_7 : (upd (upd H6 p6 (.lst [])) o (.ins A.c_Bench dx [(("ins" : Str), V.int (n : Int)), (("knots" : Str), V.int (1 + (n : Int))), (("firsts" : Str), V.ref p2), (("box_knots" : Str), V.ref p3), (("drivers" : Str), V.ref p4), (("gates" : Str), V.ref p5), (("gate_knots" : Str), V.ref p6)])) p5 = some (.lst []) := by rw [upd_ne np5, upd_ne (ne_of_none f5_6 hp6)]; exact f5_6
  have d6_5 : p6 ≠ p5 := (ne_of_none f5_6 hp6).symm
  show tSeq _ _ _ _ (upd (upd H6 p6 (.lst [])) o (.ins A.c_Bench dx [(("ins" : Str), V.int (n : Int)), (("knots" : Str), V.int (1 + (n : Int))), (("firsts" : Str), V.ref p2), (("box_knots" : Str), V.ref p3), (("drivers" : Str), V.ref p4), (("gates" : Str), V.ref p5), (("gate_knots" : Str), V.ref p6)]))
  generalize upd (upd H6 p6 (.lst [])) o (.ins A.c_Bench dx [(("ins" : Str), V.int (n : Int)), (("knots" : Str), V.int (1 + (n : Int))), (("firsts" : Str), V.ref p2), (("box_knots" : Str), V.ref p3), (("drivers" : Str), V.ref p4), (("gates" : Str), V.ref p5), (("gate_knots" : Str), V.ref p6)]) = H7 at ho7 hk7 f2_7 f3_7 f4_7 f5_7 f6_7 ⊢
  refine fun p7 hp7 => ?_
  have np7 : p7 ≠ o := (ne_of_none ho7 hp7).symm
  have hpH7 : H p7 = none := by
    cases hh : H p7 with
    | none => rfl
    | some u => rw [hk7 _ u np7 hh] at hp7; cases hp7
  refine ⟨_, rfl, o, A.c_Bench, dx, [(("ins" : Str), V.int (n : Int)), (("knots" : Str), V.int (1 + (n : Int))), (("firsts" : Str), V.ref p2), (("box_knots" : Str), V.ref p3), (("drivers" : Str), V.ref p4), (("gates" : Str), V.ref p5), (("gate_knots" : Str), V.ref p6)], rfl, (by rw [upd_ne (Ne.symm np7)]; exact ho7), T.cl_Bench, T.n_Bench_known_gates, (by show 7 < 1000; decide), ?_⟩
  have ho8 : (upd (upd H7 p7 (.dT [])) o (.ins A.c_Bench dx [(("ins" : Str), V.int (n : Int)), (("knots" : Str), V.int (1 + (n : Int))), (("firsts" : Str), V.ref p2), (("box_knots" : Str), V.ref p3), (("drivers" : Str), V.ref p4), (("gates" : Str), V.ref p5), (("gate_knots" : Str), V.ref p6), (("known_gates" : Str), V.ref p7)])) o = some (.ins A.c_Bench dx [(("ins" : Str), V.int (n : Int)), (("knots" : Str), V.int (1 + (n : Int))), (("firsts" : Str), V.ref p2), (("box_knots" : Str), V.ref p3), (("drivers" : Str), V.ref p4), (("gates" : Str), V.ref p5), (("gate_knots" : Str), V.ref p6), (("known_gates" : Str), V.ref p7)]) := upd_same
  have hk8 : ∀ a u, a ≠ o → H a = some u → (upd (upd H7 p7 (.dT [])) o (.ins A.c_Bench dx [(("ins" : Str), V.int (n : Int)), (("knots" : Str), V.int (1 + (n : Int))), (("firsts" : Str), V.ref p2), (("box_knots" : Str), V.ref p3), (("drivers" : Str), V.ref p4), (("gates" : Str), V.ref p5), (("gate_knots" : Str), V.ref p6), (("known_gates" : Str), V.ref p7)])) a = some u := fun a u na e => by rw [upd_ne na, upd_ne (ne_of_none (hk7 a u na e) hp7)]; exact hk7 a u na e
  have f7_8 : (upd (upd H7 p7 (.dT [])) o (.ins A.c_Bench dx [(("ins" : Str), V.int (n : Int)), (("knots" : Str), V.int (1 + (n : Int))), (("firsts" : Str), V.ref p2), (("box_knots" : Str), V.ref p3), (("drivers" : Str), V.ref p4), (("gates" : Str), V.ref p5), (("gate_knots" : Str), V.ref p6), (("known_gates" : Str), V.ref p7)])) p7 = some (.dT []) := by rw [upd_ne np7, upd_same]
  have f2_8 : (upd (upd H7 p7 (.dT [])) o (.ins A.c_Bench dx [(("ins" : Str), V.int (n : Int)), (("knots" : Str), V.int (1 + (n : Int))), (("firsts" : Str), V.ref p2), (("box_knots" : Str), V.ref p3), (("drivers" : Str), V.ref p4), (("gates" : Str), V.ref p5), (("gate_knots" : Str), V.ref p6), (("known_gates" : Str), V.ref p7)])) p2 = some (.lst []) := by rw [upd_ne np2, upd_ne (ne_of_none f2_7 hp7)]; exact f2_7
  have d7_2 : p7 ≠ p2 := (ne_of_none f2_7 hp7).symm
  have f3_8 : (upd (upd H7 p7 (.dT [])) o (.ins A.c_Bench dx [(("ins" : Str), V.int (n : Int)), (("knots" : Str), V.int (1 + (n : Int))), (("firsts" : Str), V.ref p2), (("box_knots" : Str), V.ref p3), (("drivers" : Str), V.ref p4), (("gates" : Str), V.ref p5), (("gate_knots" : Str), V.ref p6), (("known_gates" : Str), V.ref p7)])) p3 = some (.lst []) := by rw [upd_ne np3, upd_ne (ne_of_none f3_7 hp7)]; exact f3_7
  have d7_3 : p7 ≠ p3 := (ne_of_none f3_7 hp7).symm
  have f4_8 : (upd (upd H7 p7 (.dT [])) o (.ins A.c_Bench dx [(("ins" : Str), V.int (n : Int)), (("knots" : Str), V.int (1 + (n : Int))), (("firsts" : Str), V.ref p2), (("box_knots" : Str), V.ref p3), (("drivers" : Str), V.ref p4), (("gates" : Str), V.ref p5), (("gate_knots" : Str), V.ref p6), (("known_gates" : Str), V.ref p7)])) p4 = some (.dK []) := by rw [upd_ne np4, upd_ne (ne_of_none f4_7 hp7)]; exact f4_7
  have d7_4 : p7 ≠ p4 := (ne_of_none f4_7 hp7).symm
  have f5_8 : (upd (upd H7 p7 (.dT [])) o (.ins A.c_Bench dx [(("ins" : Str), V.int (n : Int)), (("knots" : Str), V.int (1 + (n : Int))), (("firsts" : Str), V.ref p2), (("box_knots" : Str), V.ref p3), (("drivers" : Str), V.ref p4), (("gates" : Str), V.ref p5), (("gate_knots" : Str), V.ref p6), (("known_gates" : Str), V.ref p7)])) p5 = some (.lst []) := by rw [upd_ne np5, upd_ne (ne_of_none f5_7 hp7)]; exact f5_7
  have d7_5 : p7 ≠ p5 := (ne_of_none f5_7 hp7).symm
  have f6_8 : (upd (upd H7 p7 (.dT [])) o (.ins A.c_Bench dx [(("ins" : Str), V.int (n : Int)), (("knots" : Str), V.int (1 + (n : Int))), (("firsts" : Str), V.ref p2), (("box_knots" : Str), V.ref p3), (("drivers" : Str), V.ref p4), (("gates" : Str), V.ref p5), (("gate_knots" : Str), V.ref p6), (("known_gates" : Str), V.ref p7)])) p6 = some (.lst []) := by rw [upd_ne np6, upd_ne (ne_of_none f6_7 hp7)]; exact f6_7
  have d7_6 : p7 ≠ p6 := (ne_of_none f6_7 hp7).symm
  show Q .non (upd (upd H7 p7 (.dT [])) o (.ins A.c_Bench dx [(("ins" : Str), V.int (n : Int)), (("knots" : Str), V.int (1 + (n : Int))), (("firsts" : Str), V.ref p2), (("box_knots" : Str), V.ref p3), (("drivers" : Str), V.ref p4), (("gates" : Str), V.ref p5), (("gate_knots" : Str), V.ref p6), (("known_gates" : Str), V.ref p7)]))
  generalize upd (upd H7 p7 (.dT [])) o (.ins A.c_Bench dx [(("ins" : Str), V.int (n : Int)), (("knots" : Str), V.int (1 + (n : Int))), (("firsts" : Str), V.ref p2), (("box_knots" : Str), V.ref p3), (("drivers" : Str), V.ref p4), (("gates" : Str), V.ref p5), (("gate_knots" : Str), V.ref p6), (("known_gates" : Str), V.ref p7)]) = H8 at ho8 hk8 f2_8 f3_8 f4_8 f5_8 f6_8 f7_8 ⊢
  refine q ⟨o, dx, p2, p3, p4, p5, p6, p7⟩ H8 rfl rfl ⟨hpH2, hpH3, hpH4, hpH5, hpH6, hpH7⟩ hk8 ⟨?_, f2_8, f3_8, ⟨[], f4_8, Nat.le_refl _, fun _ => rfl⟩, ⟨[], f5_8, .nil⟩, f6_8, ⟨[], f7_8, KcOk.nil⟩, ⟨d5_2, d5_3, d6_2, d6_3, Ne.symm d6_5, Ne.symm d3_2⟩, COk.nil, rfl⟩
  rw [ho8]
  unfold bFs
  rw [show ((1 + n + ([] : List Cn).length : Nat) : Int) = 1 + (n : Int) by simp]
theorem ok_Bench_into (T : Tx w K mg A) : FnOk P w K mg base CX0 1 A.a_Bench_into A.d_Bench_into ["self", "k"] sp_B_into := by
  refine T.F_Bench_into.ok sc_Bench_into (fun vs H Q E h => ?_) (fun cdv A' outer s H vs Q E hr h => ?_)
  · obtain ⟨o, k, rfl, q⟩ := h
    rfl
  obtain ⟨o, k, rfl, q⟩ := h
  refine ⟨_, (pss_one (ps_ret (pe_op op_mul pe_int (pe_op op_add pe_int (pv 1))))), ?_⟩
  exact ⟨_, rfl, _, _, rfl, rfl, _, _, rfl, rfl, .inl ⟨by decide, by decide⟩, q⟩
theorem ok_Bench_new_knot (T : Tx w K mg A) : FnOk P w K mg base CX0 1 A.a_Bench_new_knot A.d_Bench_new_knot ["self"] (sp_B_knot A.c_Bench) := by
  refine T.F_Bench_new_knot.ok sc_Bench_new_knot (fun vs H Q E h => ?_) (fun cdv A' outer s H vs Q E hr h => ?_)
  · obtain ⟨B, n, k, rfl, ho, q⟩ := h
    rfl
  obtain ⟨B, n, k, rfl, ho, q⟩ := h
  refine ⟨_, (pss_cons (ps_fld (pv 0) (pe_op op_add (pe_fld (pv 0) rfl) pe_int) rfl)
    (pss_one (ps_ret (pe_op op_mul pe_int (pe_op op_sub (pe_fld (pv 0) rfl) pe_int))))), ?_⟩
  refine ⟨_, rfl, B.b, A.c_Bench, B.dx, _, _, rfl, ho, T.cl_Bench, T.n_Bench_knots, bFs_knots, _, _, rfl, rfl, _, rfl, B.b, A.c_Bench, B.dx, _, rfl, ho, T.cl_Bench, T.n_Bench_knots, bFs_len, ?_⟩
  dsimp only
  rw [show ((k : Int) + 1) = ((k + 1 : Nat) : Int) by omega, bFs_put]
  refine ⟨_, rfl, B.b, A.c_Bench, B.dx, _, _, rfl, upd_same, T.cl_Bench, T.n_Bench_knots, bFs_knots, _, _, rfl, rfl, _, _, rfl, rfl, .inl ⟨by decide, by decide⟩, ?_⟩
  dsimp only
  rw [show (2 : Int) * (((k + 1 : Nat) : Int) - 1) = ((2 * k : Nat) : Int) by omega]
  exact q
theorem ok_Bench_box (T : Tx w K mg A) (G_Bench_new_knot : FnOk P w K mg base CX0 1 A.a_Bench_new_knot A.d_Bench_new_knot ["self"] (sp_B_knot A.c_Bench)) : FnOk P w K mg base CX0 2 A.a_Bench_box A.d_Bench_box ["self", "first"] (sp_B_box A.c_Bench) := by
  refine T.F_Bench_box.ok sc_Bench_box (fun vs H Q E h => ?_) (fun cdv A' outer s H vs Q E hr h => ?_)
  · obtain ⟨B, n, dl, fs, gs, DV, k, rfl, hB, hlen, q⟩ := h
    rfl
  obtain ⟨B, n, dl, fs, gs, DV, k, rfl, hB, hlen, q⟩ := h
  refine ⟨_, (pss_cons (ps_expr (pe_bm PySem.F.plainAttrs_list PySem.F.slot_list_append PySem.F.type_list_append mt_append (pe_fld (pv 0) rfl) (pa_cons (pv 1) pa_nil)))
    (pss_cons (ps_expr (pe_bm PySem.F.plainAttrs_list PySem.F.slot_list_append PySem.F.type_list_append mt_append (pe_fld (pv 0) rfl) (pa_cons (pe_fld (pv 0) rfl) pa_nil)))
    (pss_one (ps_ret (pe_meth0 (pv 0) T.cl_Bench T.me_Bench_new_knot G_Bench_new_knot (hr.mono (by first | decide | omega)) T.B_Bench_new_knot .nil pass0))))), ?_⟩
  obtain ⟨kn, hkn, kok⟩ := hB.hn
  obtain ⟨rs, hg⟩ := hB.hg
  obtain ⟨dr, hd, hdr⟩ := hB.hd
  have hfl := hB.fl
  have hbgl := bg_len gs (1 + n)
  have nfb : B.b ≠ B.pf := fun e => by have := hB.ob; rw [e, hB.hf] at this; cases this
  have nbb : B.b ≠ B.pb := fun e => by have := hB.ob; rw [e, hB.hb] at this; cases this
  have nfp : B.pb ≠ B.pf := hB.ap.2.2.2.2.2.symm
  refine ⟨_, rfl, B.b, A.c_Bench, B.dx, _, _, rfl, hB.ob, T.cl_Bench, T.n_Bench_firsts, bFs_firsts, .inl ⟨rfl, _, SqL.of hB.hf⟩, _, rfl, B.pf, _, _, rfl, rfl, hB.hf, (by rw [List.length_map]; exact smallL (by omega)), ?_⟩
  refine ⟨_, rfl, B.b, A.c_Bench, B.dx, _, _, rfl, (by rw [upd_ne nfb]; exact hB.ob), T.cl_Bench, T.n_Bench_box_knots, bFs_box, .inl ⟨rfl, _, SqL.of (by rw [upd_ne nfp]; exact hB.hb)⟩, _, rfl, B.b, A.c_Bench, B.dx, _, _, rfl, (by rw [upd_ne nfb]; exact hB.ob), T.cl_Bench, T.n_Bench_knots, bFs_knots, B.pb, _, _, rfl, rfl, (by rw [upd_ne nfp]; exact hB.hb), (by rw [nV_len]; exact smallL (by omega)), ?_⟩
  refine ⟨_, rfl, B.b, B.dx, _, rfl, (by rw [upd_ne nbb, upd_ne nfb]; exact hB.ob), bFs_no (by decide), B, n, _, rfl, (by rw [upd_ne nbb, upd_ne nfb]; exact hB.ob), ?_⟩
  refine q _ (((Bd.put nofF _).trans (Bd.put nofX _)).trans (Bd.put nofB _)) ?_
  have o1 : ∀ {a o}, a ≠ B.b → a ≠ B.pb → a ≠ B.pf → H a = some o → (upd (upd (upd H B.pf (.lst (fs.map V.int ++ [.int k]))) B.pb (.lst (nV (bkn (1 + n) gs) ++ [.int ((1 + n + gs.length : Nat) : Int)]))) B.b (.ins A.c_Bench B.dx (bFs n (1 + n + gs.length + 1) B))) a = some o := fun n1 n2 n3 e => by rw [upd_ne n1, upd_ne n2, upd_ne n3]; exact e
  have kl : 1 + n + (gs ++ [none]).length = 1 + n + gs.length + 1 := by rw [List.length_append, List.length_singleton]; omega
  refine ⟨?_, ?_, ?_, ⟨dr, ?_, hdr⟩, ⟨rs, ?_, ?_⟩, ?_, ⟨kn, ?_, kok.box⟩, hB.ap, hB.ok.box, ?_⟩
  · rw [upd_same, kl]
  · rw [upd_ne nfb.symm, upd_ne nfp.symm, upd_same, List.map_append]; rfl
  · rw [upd_ne nbb.symm, upd_same, bkn_snocB, nV_snoc]
  · exact o1 (fun e => by rw [e, hB.ob] at hd; cases hd) (fun e => by rw [e, hB.hb] at hd; cases hd) (fun e => by rw [e, hB.hf] at hd; cases hd) hd
  · exact o1 (fun e => by have := hg.1; rw [e, hB.ob] at this; cases this) hB.ap.2.1 hB.ap.1 hg.1
  · rw [gat_snocB]
    exact pairedMono (fun r p h => o1 (fun e => by rw [e, hB.ob] at h; cases h) (fun e => by rw [e, hB.hb] at h; cases h) (fun e => by rw [e, hB.hf] at h; cases h) h) hg.2
  · rw [gkn_snocB]
    exact o1 (fun e => by have := hB.hk; rw [e, hB.ob] at this; cases this) hB.ap.2.2.2.1 hB.ap.2.2.1 hB.hk
  · exact o1 (fun e => by rw [e, hB.ob] at hkn; cases hkn) (fun e => by rw [e, hB.hb] at hkn; cases hkn) (fun e => by rw [e, hB.hf] at hkn; cases hkn) hkn
  · rw [bkn_snocB, List.length_append, List.length_append, hfl]; rfl
theorem ok_Bench_drive (T : Tx w K mg A) : FnOk P w K mg base CX0 1 A.a_Bench_drive A.d_Bench_drive ["self", "box", "end"] (sp_B_drive A.c_Bench) := by
  refine T.F_Bench_drive.ok sc_Bench_drive (fun vs H Q E h => ?_) (fun cdv A' outer s H vs Q E hr h => ?_)
  · obtain ⟨B, n, dl, fs, gs, DV, x, e, rfl, hB, hdl, q⟩ := h
    rfl
  obtain ⟨B, n, dl, fs, gs, DV, x, e, rfl, hB, hdl, q⟩ := h
  have hu := hu_of hr
  refine ⟨_, (pss_one (ps_dput hu (pe_fld (pv 0) rfl) (pe_op op_fdivL (pv 1) pe_int) (pv 2) rfl)), ?_⟩
  obtain ⟨dr, hd, hdl', hdr⟩ := hB.hd
  have kd : ∀ a o, a ≠ B.pd → H a = some o → (upd H B.pd (.dK (putK dr (.inl ((x / 2 : Nat) : Int)) (.int (e : Int))))) a = some o := fun a o na h => by rw [upd_ne na]; exact h
  refine ⟨_, rfl, _, rfl, B.b, A.c_Bench, B.dx, _, _, rfl, hB.ob, T.cl_Bench, T.n_Bench_drivers, bFs_dri, _, rfl, _, _, rfl, rfl, ⟨by decide, by decide⟩, B.pd, _, rfl, (show DPut H B.pd (.int ((x : Int) / 2)) (.int (e : Int)) (upd H B.pd (.dK (putK dr (.inl ((x / 2 : Nat) : Int)) (.int (e : Int))))) by rw [show ((x : Int) / 2) = ((x / 2 : Nat) : Int) by omega]; exact DPut.k (k := .inl ((x / 2 : Nat) : Int)) hd (smallL (by omega))), ?_⟩
  refine q _ (Bd.put nofD _) ?_
  obtain ⟨rs, hg⟩ := hB.hg
  obtain ⟨kn, hkn, kok⟩ := hB.hn
  refine ⟨kd _ _ (fun z => by rw [← z, hB.ob] at hd; cases hd) hB.ob, kd _ _ (fun z => by rw [← z, hB.hf] at hd; cases hd) hB.hf, kd _ _ (fun z => by rw [← z, hB.hb] at hd; cases hd) hB.hb, ⟨_, upd_same, ?_, fun k => ?_⟩, ⟨rs, kd _ _ (fun z => by rw [← z, hg.1] at hd; cases hd) hg.1, pairedMono (fun r p h => kd _ _ (fun z => by rw [z, hd] at h; cases h) h) hg.2⟩, kd _ _ (fun z => by rw [← z, hB.hk] at hd; cases hd) hB.hk, ⟨kn, kd _ _ (fun z => by rw [← z, hkn] at hd; cases hd) hkn, kok⟩, hB.ap, hB.ok, hB.fl⟩
  · have := length_putK dr (.inl ((x / 2 : Nat) : Int) : Key) (.int (e : Int) : V)
    omega
  · rw [valV_put]
    by_cases h : k = x / 2
    · rw [if_pos (by rw [h]), if_pos h]
      rfl
    · rw [if_neg (fun z => h (by have := Sum.inl.inj z; omega)), if_neg h]
      exact hdr k
theorem ok_both_without_gate (T : Tx w K mg A) : FnOk P w K mg base CX0 1 A.a_both_without_gate A.d_both_without_gate ["a", "b"] sp_nogate := by
  refine T.F_both_without_gate.ok sc_both_without_gate (fun vs H Q E h => ?_) (fun cdv A' outer s H vs Q E hr h => ?_)
  · obtain ⟨x, y, rfl, q⟩ := h
    rfl
  obtain ⟨x, y, rfl, q⟩ := h
  refine ⟨_, (pss_cons (ps_set (i := 2) sc_both_without_gate.nd rfl (Or.inl rfl) (pe_callB (call_min2 rfl) rfl T.min PyProof.Rows.boot_min (pa_cons (pv 0) (pa_cons (pv 1) pa_nil))))
    (pss_cons (ps_set (i := 3) sc_both_without_gate.nd rfl (Or.inl rfl) (pe_callB (call_max2 rfl) rfl T.max PyProof.Rows.boot_max (pa_cons (pv 0) (pa_cons (pv 1) pa_nil))))
    (pss_cons (ps_if (PW.pt (pw_or (pt_cmpR op_eq (pv 2) pe_int (nomark _)) (pw_or1 (pt_cmpR op_eq (pe_op op_xor (pv 2) pe_int) (pv 3) (nomark _))))) (pss_one (ps_ret pe_int)) pss_nil)
    (pss_cons (ps_if (PW.pt (pw_or (pt_cmpR op_eq (pv 2) pe_int (nomark _)) (pw_or1 (pt_cmpR op_eq (pv 2) (pv 3) (nomark _))))) (pss_one (ps_ret (pv 3))) pss_nil)
    (pss_one (ps_ret pe_non)))))), ?_⟩
  refine ⟨_, rfl, _, rfl, _, _, rfl, ?_⟩
  refine ⟨_, rfl, _, rfl, _, _, rfl, ?_⟩
  rw [min_i, max_i]
  unfold noGate at q
  generalize min x y = lo at q ⊢
  generalize max x y = hi at q ⊢
  refine ⟨_, rfl, rfl, _, rfl, ?_⟩
  by_cases c1 : lo = 0
  · rw [if_pos (.inl c1)] at q
    exact ite_t (decide_eq_true (by rw [c1]; rfl)) (iteT q)
  have hx : Builtin.bitXor ((lo : Nat) : Int) 1 = ((lo ^^^ 1 : Nat) : Int) := xor_nat lo 1
  refine ite_f (decide_eq_false fun h => by injection h with h; omega) ⟨_, rfl, _, _, rfl, rfl, _, rfl, rfl, _, rfl, ?_⟩
  by_cases c2 : lo ^^^ 1 = hi
  · rw [if_pos (.inr c2)] at q
    exact ite_t (decide_eq_true (by dsimp only; rw [hx, c2])) q
  rw [if_neg (by intro h; rcases h with h | h; exact c1 h; exact c2 h)] at q
  refine ite_f (decide_eq_false fun h => by dsimp only at h; rw [hx] at h; injection h with h; omega) ?_
  refine ⟨_, rfl, rfl, _, rfl, ?_⟩
  by_cases c3 : lo = 1
  · rw [if_pos (.inl c3)] at q
    exact ite_t (decide_eq_true (by rw [c3]; rfl)) (iteT ⟨_, rfl, q⟩)
  refine ite_f (decide_eq_false fun h => by injection h with h; omega) ⟨_, rfl, _, rfl, rfl, _, rfl, ?_⟩
  by_cases c4 : lo = hi
  · rw [if_pos (.inr c4)] at q
    exact ite_t (decide_eq_true (by rw [c4])) ⟨_, rfl, q⟩
  rw [if_neg (by intro h; rcases h with h | h; exact c3 h; exact c4 h)] at q
  exact ite_f (decide_eq_false fun h => by injection h with h; omega) q
theorem ok_Bench_both (T : Tx w K mg A) (G_both_without_gate : FnOk P w K mg base CX0 1 A.a_both_without_gate A.d_both_without_gate ["a", "b"] sp_nogate) (G_Bench_new_knot : FnOk P w K mg base CX0 1 A.a_Bench_new_knot A.d_Bench_new_knot ["self"] (sp_B_knot A.c_Bench)) : FnOk P w K mg base CX0 2 A.a_Bench_both A.d_Bench_both ["self", "a", "b"] (sp_B_both A.c_Bench) := by
  refine T.F_Bench_both.ok sc_Bench_both (fun vs H Q E h => ?_) (fun cdv A' outer s H vs Q E hr h => ?_)
  · obtain ⟨B, n, dl, fs, gs, DV, x, y, rfl, hB, hlen, hx, hy, q⟩ := h
    rfl
  obtain ⟨B, n, dl, fs, gs, DV, x, y, rfl, hB, hlen, hx, hy, q⟩ := h
  have hu := hu_of hr
  refine ⟨_, (pss_cons (ps_set (i := 3) sc_Bench_both.nd rfl (Or.inl rfl) (pe_call G_both_without_gate (hr.mono (by first | decide | omega)) rfl T.M_both_without_gate T.F_both_without_gate.kp T.B_both_without_gate .nil pass0 (pa_cons (pv 1) (pa_cons (pv 2) pa_nil))))
    (pss_cons (ps_if (pt_cmpR op_notN (pv 3) pe_non (nomark _)) (pss_one (ps_ret (pv 3))) pss_nil)
    (pss_cons (ps_set (i := 4) sc_Bench_both.nd rfl (Or.inl rfl) (pe_tup (pa_cons (pe_callB (call_min2 rfl) rfl T.min PyProof.Rows.boot_min (pa_cons (pv 1) (pa_cons (pv 2) pa_nil))) (pa_cons (pe_callB (call_max2 rfl) rfl T.max PyProof.Rows.boot_max (pa_cons (pv 1) (pa_cons (pv 2) pa_nil))) pa_nil))))
    (pss_cons (ps_if (pt_cmp (pc_dnotin hu (pv 4) (pe_fld (pv 0) rfl))) (pss_cons (ps_expr (pe_bm PySem.F.plainAttrs_list PySem.F.slot_list_append PySem.F.type_list_append mt_append (pe_fld (pv 0) rfl) (pa_cons (pv 4) pa_nil)))
    (pss_cons (ps_expr (pe_bm PySem.F.plainAttrs_list PySem.F.slot_list_append PySem.F.type_list_append mt_append (pe_fld (pv 0) rfl) (pa_cons (pe_fld (pv 0) rfl) pa_nil)))
    (pss_one (ps_dput hu (pe_fld (pv 0) rfl) (pv 4) (pe_meth0 (pv 0) T.cl_Bench T.me_Bench_new_knot G_Bench_new_knot (hr.mono (by first | decide | omega)) T.B_Bench_new_knot .nil pass0) rfl)))) pss_nil)
    (pss_one (ps_ret (pe_dget hu (pe_fld (pv 0) rfl) (pv 4) (fun _ _ => rfl)))))))), ?_⟩
  refine ⟨_, rfl, _, rfl, x, y, rfl, ?_⟩
  cases hng : noGate x y with
  | some e =>
    refine ⟨_, rfl, rfl, _, rfl, ?_⟩
    refine ite_t rfl ⟨_, rfl, ?_⟩
    exact q e gs H ((both_noneO hB.ok (by omega) hx hy hng).up (by decide)) Bd.refl hB
  | none =>
    refine ⟨_, rfl, rfl, _, rfl, ?_⟩
    refine ite_f rfl ?_
    refine ⟨_, rfl, _, rfl, _, _, rfl, _, rfl, _, rfl, _, _, rfl, (by show 2 ≤ sizeLine; decide), fun pt hpt => ?_⟩
    rw [min_i, max_i]
    have t1 := same_new hpt (.tup [.int ((min x y : Nat) : Int), .int ((max x y : Nat) : Int)])
    have ft : (upd H pt (.tup [.int ((min x y : Nat) : Int), .int ((max x y : Nat) : Int)])) pt = some (.tup ((gkey (min x y, max x y)).map kV)) := upd_same
    have hB1 := hB.same t1
    generalize upd H pt (.tup [.int ((min x y : Nat) : Int), .int ((max x y : Nat) : Int)]) = H1 at t1 ft hB1 ⊢
    obtain ⟨kn, hkn, kok⟩ := hB1.hn
    obtain ⟨dr, hd1, hdr⟩ := hB1.hd
    have hkl := kok.1
    refine ⟨_, rfl, _, rfl, B.b, A.c_Bench, B.dx, _, _, rfl, hB1.ob, T.cl_Bench, T.n_Bench_known_gates, bFs_kn, B.pn, _, rfl, DGet.t hkn ft, _, rfl, ?_⟩
    rcases kok.2 (min x y, max x y) with ⟨hno, hnm⟩ | ⟨i, hi, hyes⟩
    · rw [hno]
      refine ite_t rfl ?_
      obtain ⟨rs, hg⟩ := hB1.hg
      have hrl := hg.length
      rw [List.length_map, gat_len gs (1 + n)] at hrl
      have hbgl := bg_len gs (1 + n)
      have npt : pt ≠ B.pg := fun e => by rw [e, hg.1] at ft; cases ft
      refine ⟨_, rfl, B.b, A.c_Bench, B.dx, _, _, rfl, hB1.ob, T.cl_Bench, T.n_Bench_gates, bFs_gates, .inl ⟨rfl, _, SqL.of hg.1⟩, _, rfl, B.pg, _, _, rfl, rfl, hg.1, (by rw [List.length_map]; exact smallL (by omega)), ?_⟩
      have ngb : B.b ≠ B.pg := fun e => by have := hB1.ob; rw [e, hg.1] at this; cases this
      have ngk : B.pk ≠ B.pg := hB1.ap.2.2.2.2.1.symm
      have ngn : B.pn ≠ B.pg := fun e => by rw [e, hg.1] at hkn; cases hkn
      have nkb : B.b ≠ B.pk := fun e => by have := hB1.ob; rw [e, hB1.hk] at this; cases this
      have nkn : B.pn ≠ B.pk := fun e => by rw [e, hB1.hk] at hkn; cases hkn
      have nbn : B.pn ≠ B.b := fun e => by rw [e, hB1.ob] at hkn; cases hkn
      have nfb : B.pf ≠ B.b := fun e => by have := hB1.hf; rw [e, hB1.ob] at this; cases this
      have nbb : B.pb ≠ B.b := fun e => by have := hB1.hb; rw [e, hB1.ob] at this; cases this
      have ndb : B.pd ≠ B.b := fun e => by have := hd1; rw [e, hB1.ob] at this; cases this
      have ndg : B.pd ≠ B.pg := fun e => by have := hd1; rw [e, hg.1] at this; cases this
      have ndk : B.pd ≠ B.pk := fun e => by have := hd1; rw [e, hB1.hk] at this; cases this
      have ndn : B.pd ≠ B.pn := fun e => by have := hd1; rw [e, hkn] at this; cases this
      have nfn : B.pf ≠ B.pn := fun e => by have := hB1.hf; rw [e, hkn] at this; cases this
      have nbn' : B.pb ≠ B.pn := fun e => by have := hB1.hb; rw [e, hkn] at this; cases this
      refine ⟨_, rfl, B.b, A.c_Bench, B.dx, _, _, rfl, (by rw [upd_ne ngb]; exact hB1.ob), T.cl_Bench, T.n_Bench_gate_knots, bFs_gk, .inl ⟨rfl, _, SqL.of (by rw [upd_ne ngk]; exact hB1.hk)⟩, _, rfl, B.b, A.c_Bench, B.dx, _, _, rfl, (by rw [upd_ne ngb]; exact hB1.ob), T.cl_Bench, T.n_Bench_knots, bFs_knots, B.pk, _, _, rfl, rfl, (by rw [upd_ne ngk]; exact hB1.hk), (by rw [nV_len]; exact smallL (by omega)), ?_⟩
      refine ⟨_, rfl, B.b, B.dx, _, rfl, (by rw [upd_ne nkb, upd_ne ngb]; exact hB1.ob), bFs_no (by decide), B, n, _, rfl, (by rw [upd_ne nkb, upd_ne ngb]; exact hB1.ob), ?_⟩
      refine ⟨_, rfl, B.b, A.c_Bench, B.dx, _, _, rfl, upd_same, T.cl_Bench, T.n_Bench_known_gates, bFs_kn, _, rfl, B.pn, _, rfl, DPut.t (k := gkey (min x y, max x y)) (by rw [upd_ne nbn, upd_ne nkn, upd_ne ngn]; exact hkn) (by rw [upd_ne (fun e => by rw [e, hB1.ob] at ft; cases ft), upd_ne (fun e => by rw [e, hB1.hk] at ft; cases ft), upd_ne npt]; exact ft) (smallL (by omega)), ?_⟩
      have e2 : 2 * (1 + n + gs.length) = 2 * (1 + n + gs.length) := rfl
      have hB5 : BenOn A.c_Bench (upd (upd (upd (upd H1 B.pg (.lst (rs.map V.ref ++ [.ref pt]))) B.pk (.lst (nV (gkn (1 + n) gs) ++ [.int ((1 + n + gs.length : Nat) : Int)]))) B.b (.ins A.c_Bench B.dx (bFs n (1 + n + gs.length + 1) B))) B.pn (.dT (putK kn (gkey (min x y, max x y)) (.int ((2 * (1 + n + gs.length) : Nat) : Int))))) B n fs (gs ++ [some (min x y, max x y)]) DV dl := by
        refine ⟨?_, ?_, ?_, ⟨dr, ?_, hdr⟩, ⟨rs ++ [pt], ?_, ?_⟩, ?_, ⟨_, upd_same, kok.put _⟩, hB1.ap, (both_newO hB.ok hx hy).ok, by rw [bkn_snocG]; exact hB1.fl⟩
        · rw [upd_ne nbn.symm, upd_same, List.length_append, List.length_singleton, ← Nat.add_assoc]
        · rw [upd_ne nfn, upd_ne nfb, upd_ne hB1.ap.2.2.1.symm, upd_ne hB1.ap.1.symm]; exact hB1.hf
        · rw [upd_ne nbn', upd_ne nbb, upd_ne hB1.ap.2.2.2.1.symm, upd_ne hB1.ap.2.1.symm, bkn_snocG]; exact hB1.hb
        · rw [upd_ne ndn, upd_ne ndb, upd_ne ndk, upd_ne ndg]; exact hd1
        · rw [upd_ne ngn.symm, upd_ne ngb.symm, upd_ne ngk.symm, upd_same, List.map_append]; rfl
        · rw [gat_snocG, List.map_append]
          have kT : ∀ (r : Addr) (xs : List V), H1 r = some (.tup xs) → (upd (upd (upd (upd H1 B.pg (.lst (rs.map V.ref ++ [.ref pt]))) B.pk (.lst (nV (gkn (1 + n) gs) ++ [.int ((1 + n + gs.length : Nat) : Int)]))) B.b (.ins A.c_Bench B.dx (bFs n (1 + n + gs.length + 1) B))) B.pn (.dT (putK kn (gkey (min x y, max x y)) (.int ((2 * (1 + n + gs.length) : Nat) : Int))))) r = some (.tup xs) := fun r xs e => by
            rw [upd_ne (fun z => by rw [z, hkn] at e; cases e), upd_ne (fun z => by rw [z, hB1.ob] at e; cases e), upd_ne (fun z => by rw [z, hB1.hk] at e; cases e), upd_ne (fun z => by rw [z, hg.1] at e; cases e)]
            exact e
          exact pairedSn (pairedMono (fun r p h => kT r _ h) hg.2) (.cons (kT pt _ ft) .nil)
        · rw [upd_ne nkn.symm, upd_ne nkb.symm, upd_same, gkn_snocG, nV_snoc]
      have hc5 : Bd B H (upd (upd (upd (upd H1 B.pg (.lst (rs.map V.ref ++ [.ref pt]))) B.pk (.lst (nV (gkn (1 + n) gs) ++ [.int ((1 + n + gs.length : Nat) : Int)]))) B.b (.ins A.c_Bench B.dx (bFs n (1 + n + gs.length + 1) B))) B.pn (.dT (putK kn (gkey (min x y, max x y)) (.int ((2 * (1 + n + gs.length) : Nat) : Int))))) :=
        (((((Bd.of t1).trans (Bd.put nofG _)).trans (Bd.put nofK _)).trans (Bd.put nofB _)).trans (Bd.put nofN _))
      have ft5 := (hc5.keepT hB) 
      refine ⟨_, rfl, B.b, A.c_Bench, B.dx, _, _, rfl, hB5.ob, T.cl_Bench, T.n_Bench_known_gates, bFs_kn, _, rfl, B.pn, .int ((2 * (1 + n + gs.length) : Nat) : Int), rfl, ?_, q _ _ _ (both_newO hB.ok hx hy) hc5 hB5⟩
      · have h9 := DGet.t (k := gkey (min x y, max x y)) (b := pt) (upd_same (H := upd (upd (upd H1 B.pg (.lst (rs.map V.ref ++ [.ref pt]))) B.pk (.lst (nV (gkn (1 + n) gs) ++ [.int ((1 + n + gs.length : Nat) : Int)]))) B.b (.ins A.c_Bench B.dx (bFs n (1 + n + gs.length + 1) B))) (a := B.pn) (o := .dT (putK kn (gkey (min x y, max x y)) (.int ((2 * (1 + n + gs.length) : Nat) : Int))))) (by rw [upd_ne (fun z => by rw [z, hkn] at ft; cases ft), upd_ne (fun z => by rw [z, hB1.ob] at ft; cases ft), upd_ne (fun z => by rw [z, hB1.hk] at ft; cases ft), upd_ne npt]; exact ft)
        rw [valV_put, if_pos rfl] at h9
        exact h9
    · rw [hyes]
      refine ite_f rfl ?_
      refine ⟨_, rfl, B.b, A.c_Bench, B.dx, _, _, rfl, hB1.ob, T.cl_Bench, T.n_Bench_known_gates, bFs_kn, _, rfl, B.pn, _, rfl, (by rw [← hyes]; exact DGet.t hkn ft), ?_⟩
      exact q _ gs H1 ((both_knownO hB.ok hi).up (by decide)) (Bd.of t1) hB1
theorem ok_Bench_either (T : Tx w K mg A) (G_Bench_both : FnOk P w K mg base CX0 2 A.a_Bench_both A.d_Bench_both ["self", "a", "b"] (sp_B_both A.c_Bench)) : FnOk P w K mg base CX0 3 A.a_Bench_either A.d_Bench_either ["self", "a", "b"] (sp_B_either A.c_Bench) := by
  refine T.F_Bench_either.ok sc_Bench_either (fun vs H Q E h => ?_) (fun cdv A' outer s H vs Q E hr h => ?_)
  · obtain ⟨B, n, dl, fs, gs, DV, x, y, rfl, hB, hlen, hx, hy, q⟩ := h
    rfl
  obtain ⟨B, n, dl, fs, gs, DV, x, y, rfl, hB, hlen, hx, hy, q⟩ := h
  refine ⟨_, (pss_one (ps_ret (pe_op op_xor (pe_meth (pv 0) T.cl_Bench T.me_Bench_both G_Bench_both (hr.mono (by first | decide | omega)) T.B_Bench_both .nil pass0 (pa_cons (pe_op op_xor (pv 1) pe_int) (pa_cons (pe_op op_xor (pv 2) pe_int) pa_nil))) pe_int))), ?_⟩
  refine ⟨_, rfl, B.b, B.dx, _, rfl, hB.ob, bFs_no (by decide), _, rfl, _, _, rfl, rfl, _, rfl, _, _, rfl, rfl, B, n, dl, fs, gs, DV, x ^^^ 1, y ^^^ 1, ?_, hB, by omega, by rw [x1_div]; exact hx, by rw [x1_div]; exact hy, fun e gs' H' md bc hB' => ⟨_, _, rfl, rfl, ?_⟩⟩
  · show [V.ref B.b, V.int (Builtin.bitXor (x : Int) 1), V.int (Builtin.bitXor (y : Int) 1)] = _
    rw [x1i, x1i]
  · dsimp only
    rw [x1i]
    exact q _ gs' H' (either_madeO md) bc hB'
theorem ok_Bench_odd (T : Tx w K mg A) (G_Bench_both : FnOk P w K mg base CX0 2 A.a_Bench_both A.d_Bench_both ["self", "a", "b"] (sp_B_both A.c_Bench)) (G_Bench_either : FnOk P w K mg base CX0 3 A.a_Bench_either A.d_Bench_either ["self", "a", "b"] (sp_B_either A.c_Bench)) : FnOk P w K mg base CX0 4 A.a_Bench_odd A.d_Bench_odd ["self", "a", "b"] (sp_B_odd A.c_Bench) := by
  refine T.F_Bench_odd.ok sc_Bench_odd (fun vs H Q E h => ?_) (fun cdv A' outer s H vs Q E hr h => ?_)
  · obtain ⟨B, n, dl, fs, gs, DV, x, y, rfl, hB, hlen, hx, hy, q⟩ := h
    rfl
  obtain ⟨B, n, dl, fs, gs, DV, x, y, rfl, hB, hlen, hx, hy, q⟩ := h
  refine ⟨_, (pss_one (ps_ret (pe_meth (pv 0) T.cl_Bench T.me_Bench_both G_Bench_both (hr.mono (by first | decide | omega)) T.B_Bench_both .nil pass0 (pa_cons (pe_meth (pv 0) T.cl_Bench T.me_Bench_either G_Bench_either (hr.mono (by first | decide | omega)) T.B_Bench_either .nil pass0 (pa_cons (pv 1) (pa_cons (pv 2) pa_nil))) (pa_cons (pe_op op_xor (pe_meth (pv 0) T.cl_Bench T.me_Bench_both G_Bench_both (hr.mono (by first | decide | omega)) T.B_Bench_both .nil pass0 (pa_cons (pv 1) (pa_cons (pv 2) pa_nil))) pe_int) pa_nil))))), ?_⟩
  refine ⟨_, rfl, B.b, B.dx, _, rfl, hB.ob, bFs_no (by decide), _, rfl, B.b, B.dx, _, rfl, hB.ob, bFs_no (by decide), _, rfl, _, rfl, B, n, dl, fs, gs, DV, x, y, rfl, hB, by omega, hx, hy, fun e1 g1 H1 m1 c1 hB1 => ?_⟩
  have l1 := m1.len
  refine ⟨_, rfl, B.b, B.dx, _, rfl, hB1.ob, bFs_no (by decide), _, rfl, _, rfl, B, n, dl, fs, g1, DV, x, y, rfl, hB1, by omega, by omega, by omega, fun e2 g2 H2 m2 c2 hB2 => ⟨_, _, rfl, rfl, ?_⟩⟩
  have l2 := m2.len
  refine ⟨B, n, dl, fs, g2, DV, e1, e2 ^^^ 1, ?_, hB2, by omega, Nat.lt_of_lt_of_le m1.lt (by omega), by rw [x1_div]; exact m2.lt, fun e3 g3 H3 m3 c3 hB3 => q e3 g3 H3 (odd_madeO hx hy m1 m2 m3) ((c1.trans c2).trans c3) hB3⟩
  show [V.ref B.b, V.int (e1 : Int), V.int (Builtin.bitXor (e2 : Int) 1)] = _
  rw [x1i]
theorem ok_Bench_choice (T : Tx w K mg A) (G_Bench_either : FnOk P w K mg base CX0 3 A.a_Bench_either A.d_Bench_either ["self", "a", "b"] (sp_B_either A.c_Bench)) (G_Bench_both : FnOk P w K mg base CX0 2 A.a_Bench_both A.d_Bench_both ["self", "a", "b"] (sp_B_both A.c_Bench)) : FnOk P w K mg base CX0 4 A.a_Bench_choice A.d_Bench_choice ["self", "c", "a", "b"] (sp_B_choice A.c_Bench) := by
  refine T.F_Bench_choice.ok sc_Bench_choice (fun vs H Q E h => ?_) (fun cdv A' outer s H vs Q E hr h => ?_)
  · obtain ⟨B, n, dl, fs, gs, DV, z, x, y, rfl, hB, hlen, hz, hx, hy, q⟩ := h
    rfl
  obtain ⟨B, n, dl, fs, gs, DV, z, x, y, rfl, hB, hlen, hz, hx, hy, q⟩ := h
  refine ⟨_, (pss_cons (ps_if (pt_cmpR op_eq (pv 2) (pv 3) (nomark _)) (pss_one (ps_ret (pv 2))) pss_nil)
    (pss_one (ps_ret (pe_meth (pv 0) T.cl_Bench T.me_Bench_either G_Bench_either (hr.mono (by first | decide | omega)) T.B_Bench_either .nil pass0 (pa_cons (pe_meth (pv 0) T.cl_Bench T.me_Bench_both G_Bench_both (hr.mono (by first | decide | omega)) T.B_Bench_both .nil pass0 (pa_cons (pv 1) (pa_cons (pv 2) pa_nil))) (pa_cons (pe_meth (pv 0) T.cl_Bench T.me_Bench_both G_Bench_both (hr.mono (by first | decide | omega)) T.B_Bench_both .nil pass0 (pa_cons (pe_op op_xor (pv 1) pe_int) (pa_cons (pv 3) pa_nil))) pa_nil)))))), ?_⟩
  refine ⟨_, rfl, _, rfl, rfl, _, rfl, ?_⟩
  by_cases h : x = y
  · subst h
    exact ite_t (decide_eq_true rfl) ⟨_, rfl, q x gs H ((choice_sameO hB.ok hx).up (by decide)) Bd.refl hB⟩
  refine ite_f (decide_eq_false fun e => by injection e with e; omega) ?_
  refine ⟨_, rfl, B.b, B.dx, _, rfl, hB.ob, bFs_no (by decide), _, rfl, B.b, B.dx, _, rfl, hB.ob, bFs_no (by decide), _, rfl, _, rfl, B, n, dl, fs, gs, DV, z, x, rfl, hB, by omega, hz, hx, fun e1 g1 H1 m1 c1 hB1 => ?_⟩
  have l1 := m1.len
  refine ⟨_, rfl, B.b, B.dx, _, rfl, hB1.ob, bFs_no (by decide), _, rfl, _, _, rfl, rfl, _, rfl, B, n, dl, fs, g1, DV, z ^^^ 1, y, ?_, hB1, by omega, by rw [x1_div]; omega, by omega, fun e2 g2 H2 m2 c2 hB2 => ?_⟩
  · show [V.ref B.b, V.int (Builtin.bitXor (z : Int) 1), V.int (y : Int)] = _
    rw [x1i]
  have l2 := m2.len
  exact ⟨B, n, dl, fs, g2, DV, e1, e2, rfl, hB2, by omega, Nat.lt_of_lt_of_le m1.lt (by omega), m2.lt, fun e3 g3 H3 m3 c3 hB3 => q e3 g3 H3 (choice_madeO hz hy m1 m2 m3) ((c1.trans c2).trans c3) hB3⟩
theorem ok_placed (T : Tx w K mg A) : FnOk P w K mg base CX0 1 A.a_placed A.d_placed ["places", "end"] sp_placed := by
  refine T.F_placed.ok sc_placed (fun vs H Q E h => ?_) (fun cdv A' outer s H vs Q E hr h => ?_)
  · obtain ⟨pp, pl, e, rfl, hp, he, q⟩ := h
    rfl
  obtain ⟨pp, pl, e, rfl, hp, he, q⟩ := h
  refine ⟨_, (pss_one (ps_ret (pe_op op_add (pe_op op_mul pe_int (pe_ix ix_list (pv 0) (pe_op op_fdivL (pv 1) pe_int) (fun _ _ => rfl))) (pe_op op_mod (pv 1) pe_int)))), ?_⟩
  refine ⟨_, rfl, _, rfl, _, _, rfl, rfl, ⟨by decide, by decide⟩, pp, _, _, _, rfl, rfl, SqL.of hp, (show atI (nV pl) ((e : Int) / 2) = some (.int ((pl.getD (e / 2) 0 : Nat) : Int)) by rw [show ((e : Int) / 2) = ((e / 2 : Nat) : Int) by omega]; exact atI_nat (nV_at he)), _, _, rfl, rfl, .inl ⟨by decide, by decide⟩, _, rfl, _, _, rfl, rfl, (by show (0 : Int) < 2; decide), _, _, rfl, rfl, ?_⟩
  dsimp only
  rw [show (2 : Int) * ((pl.getD (e / 2) 0 : Nat) : Int) + (e : Int) % 2 = ((pe pl e : Nat) : Int) by unfold pe; omega]
  exact q
theorem ok_Bench_work (T : Tx w K mg A) (G_placed : FnOk P w K mg base CX0 1 A.a_placed A.d_placed ["places", "end"] sp_placed) : FnOk P w K mg base CX0 2 A.a_Bench_work A.d_Bench_work ["self", "outs"] (sp_B_work A.c_Bench) := by
  refine T.F_Bench_work.ok sc_Bench_work (fun vs H Q E h => ?_) (fun cdv A' outer s H vs Q E hr h => ?_)
  · obtain ⟨B, n, dl, fs, gs, DV, po, es, rfl, hB, hn, hlen, hpo, hes, hlt, hdv, q⟩ := h
    rfl
  obtain ⟨B, n, dl, fs, gs, DV, po, es, rfl, hB, hn, hlen, hpo, hes, hlt, hdv, q⟩ := h
  have hu := hu_of hr
  refine ⟨_, (pss_cons (ps_set (i := 2) sc_Bench_work.nd rfl (Or.inr rfl) (pe_op op_cat (pe_callTy (call_list_rng rfl) rfl T.list PyProof.Rows.boot_list (pa_cons (pe_callTy call_rangeO rfl T.range PyProof.Rows.boot_range (pa_cons (pe_op op_add pe_int (pe_fld (pv 0) rfl)) pa_nil)) pa_nil)) (pe_op op_rep (pe_lst (pa_cons pe_int pa_nil)) (pe_op op_sub (pe_op op_sub (pe_fld (pv 0) rfl) pe_int) (pe_fld (pv 0) rfl)))))
    (pss_cons (ps_for PassesOwn.never rfl (pi_enum rfl T.enumerate (pa_cons (pe_op op_cat (pe_fld (pv 0) rfl) (pe_fld (pv 0) rfl)) pa_nil)) (pg_tup rfl (pgs_cons (pg_name (i := 3) sc_Bench_work.nd rfl (Or.inl rfl)) (pgs_cons (pg_name (i := 4) sc_Bench_work.nd rfl (Or.inl rfl)) pgs_nil)))
        (pss_one (ps_asg (pe_op op_add (pe_op op_add pe_int (pe_fld (pv 0) rfl)) (pv 3)) (pg_sub (pv 2) (pv 4) set_list))))
    (pss_cons (ps_set (i := 5) sc_Bench_work.nd rfl (Or.inl rfl) (pe_lst pa_nil))
    (pss_cons (ps_for PassesOwn.never rfl (pi_zip rfl T.zip (pa_cons (pe_fld (pv 0) rfl) (pa_cons (pe_fld (pv 0) rfl) pa_nil))) (pg_tup rfl (pgs_cons (pg_name (i := 6) sc_Bench_work.nd rfl (Or.inl rfl)) (pgs_cons (pg_name (i := 4) sc_Bench_work.nd rfl (Or.inl rfl)) pgs_nil)))
        (pss_one (ps_expr (pe_bm PySem.F.plainAttrs_list PySem.F.slot_list_append PySem.F.type_list_append mt_append (pv 5) (pa_cons (pe_tup (pa_cons (pv 6) (pa_cons (pe_call G_placed (hr.mono (by first | decide | omega)) rfl T.M_placed T.F_placed.kp T.B_placed .nil pass0 (pa_cons (pv 2) (pa_cons (pe_dget2 hu (pe_fld (pv 0) rfl) (pv 4) (pe_op op_mul pe_int (pv 4)) ⟨rfl, rfl, rfl, rfl⟩) pa_nil))) pa_nil))) pa_nil)))))
    (pss_cons (ps_compG ["one", "other"] [2] sc_Bench_work.nd (i := 7) rfl (Or.inl rfl) (fun _ _ h => h) rfl (pi_list (pe_fld (pv 0) rfl)) (fun _ _ _ _ => (pg_tup rfl (pgs_cons (pg_name (i := 0) (show (["one", "other", "places"] : List Str).Nodup by decide +kernel) rfl (Or.inl rfl)) (pgs_cons (pg_name (i := 1) (show (["one", "other", "places"] : List Str).Nodup by decide +kernel) rfl (Or.inl rfl)) pgs_nil)))) shp_tup2 (fun _ _ _ _ => pts_nil) (fun _ _ _ _ => (pe_tup (pa_cons (pe_call G_placed (hr.mono (by first | decide | omega)) rfl T.M_placed T.F_placed.kp T.B_placed .nil pass0 (pa_cons (pv 2) (pa_cons (pv 0) pa_nil))) (pa_cons (pe_call G_placed (hr.mono (by first | decide | omega)) rfl T.M_placed T.F_placed.kp T.B_placed .nil pass0 (pa_cons (pv 2) (pa_cons (pv 1) pa_nil))) pa_nil)))) rfl (show ∀ j ∈ ([2] : List Nat), j < 8 by decide) (by with_unfolding_all rfl))
    (pss_one (ps_ret (pe_tup (pa_cons (pe_fld (pv 0) rfl) (pa_cons (pv 5) (pa_cons (pv 7) (pa_cons (pe_comp [2] (fun _ _ h => h) rfl (pi_list (pv 1)) (fun _ _ _ _ => pts_nil) (fun _ _ _ _ => (pe_call G_placed (hr.mono (by first | decide | omega)) rfl T.M_placed T.F_placed.kp T.B_placed .nil pass0 (pa_cons (pv 1) (pa_cons (pv 0) pa_nil)))) rfl (show ∀ j ∈ ([2] : List Nat), j < 8 by decide) (show (["end", "places"] : List Str).Nodup by decide +kernel)) pa_nil)))))))))))), ?_⟩
  have hbgl := bg_len gs (1 + n)
  have hfl := hB.fl
  refine ⟨_, rfl, B.b, A.c_Bench, B.dx, _, _, rfl, hB.ob, T.cl_Bench, T.n_Bench_ins, bFs_ins, _, _, rfl, rfl, _, rfl, fun pr hpr => ?_⟩
  have t1 := same_new hpr (.rng 0 (1 + (n : Int)))
  have f1 := upd_same (H := H) (a := pr) (o := .rng 0 (1 + (n : Int)))
  generalize upd H pr (.rng 0 (1 + (n : Int))) = H1 at t1 f1 ⊢
  refine ⟨pr, _, rfl, f1, by omega, by omega, fun pl hpl => ?_⟩
  have e1 : ((List.range (1 + (n : Int)).toNat).map fun i => V.int (i : Nat)) = nV (List.range (1 + n)) := by
    unfold nV
    rw [show (1 + (n : Int)).toNat = 1 + n by omega]
  rw [e1]
  have t2 := t1.trans (same_new hpl (.lst (nV (List.range (1 + n)))))
  have f2 := upd_same (H := H1) (a := pl) (o := .lst (nV (List.range (1 + n))))
  generalize upd H1 pl (.lst (nV (List.range (1 + n)))) = H2 at t2 f2 ⊢
  have hB2 := hB.same t2
  refine ⟨(by show 1 ≤ sizeLine; decide), fun p3 hp3 => ?_⟩
  have u3 := same_new hp3 (.lst [.int 0])
  have f3 := upd_same (H := H2) (a := p3) (o := .lst [.int 0])
  generalize upd H2 p3 (.lst [.int 0]) = H3 at u3 f3 ⊢
  have t3 := t2.trans u3
  have hB3 := hB2.same u3
  refine ⟨_, rfl, B.b, A.c_Bench, B.dx, _, _, rfl, hB3.ob, T.cl_Bench, T.n_Bench_knots, bFs_knots, _, _, rfl, rfl, _, rfl, B.b, A.c_Bench, B.dx, _, _, rfl, hB3.ob, T.cl_Bench, T.n_Bench_ins, bFs_ins, _, _, rfl, rfl, p3, ((gs.length : Nat) : Int), _, rfl, ?_, f3, by omega, by omega, small (by show 1 * (((gs.length : Nat) : Int)).toNat ≤ 100000; omega), fun p4 hp4 => ?_⟩
  · dsimp only
    rw [show ((1 + n + gs.length : Nat) : Int) - 1 - (n : Int) = ((gs.length : Nat) : Int) by omega]
  rw [Int.toNat_natCast, List.flatten_replicate_singleton, show List.replicate gs.length (V.int 0) = nV (List.replicate gs.length 0) by unfold nV; rw [List.map_replicate]; rfl]
  have u4 := same_new hp4 (.lst (nV (List.replicate gs.length 0)))
  have f4 := upd_same (H := H3) (a := p4) (o := .lst (nV (List.replicate gs.length 0)))
  generalize upd H3 p4 (.lst (nV (List.replicate gs.length 0))) = H4 at u4 f4 ⊢
  have t4 := t3.trans u4
  refine ⟨pl, p4, _, _, rfl, rfl, (u3.trans u4) _ _ f2, f4, small (by rw [nV_len, nV_len, List.length_range, List.length_replicate]; omega), fun pp hpp => ?_⟩
  rw [← nV_app]
  have hP0 := Plc.zero n gs
  generalize List.range (1 + n) ++ List.replicate gs.length 0 = PL at hP0 ⊢
  show tSeq _ _ _ _ (upd H4 pp (.lst (nV PL)))
  have hppH := t4.free hpp
  have t5 := t4.trans (same_new hpp (.lst (nV PL)))
  have f5 := upd_same (H := H4) (a := pp) (o := .lst (nV PL))
  generalize upd H4 pp (.lst (nV PL)) = H5 at t5 f5 ⊢
  have hB5 := hB.same t5
  refine ⟨_, rfl, B.b, A.c_Bench, B.dx, _, _, rfl, hB5.ob, T.cl_Bench, T.n_Bench_box_knots, bFs_box, _, rfl, B.b, A.c_Bench, B.dx, _, _, rfl, hB5.ob, T.cl_Bench, T.n_Bench_gate_knots, bFs_gk, B.pb, B.pk, _, _, rfl, rfl, hB5.hb, hB5.hk, small (by rw [nV_len, nV_len]; omega), fun pe' hpe => ?_⟩
  rw [← nV_app]
  have npe : pp ≠ pe' := ne_of_none f5 hpe
  have u6 := same_new hpe (.lst (nV (bgL (1 + n) gs)))
  have f6 := upd_same (H := H5) (a := pe') (o := .lst (nV (bgL (1 + n) gs)))
  have f56 := u6 _ _ f5
  have t6 := t5.trans u6
  show _
  have hbL : (bgL (1 + n) gs).length = gs.length := bgL_len
  change _
  rw [show bkn (1 + n) gs ++ gkn (1 + n) gs = bgL (1 + n) gs from rfl]
  generalize upd H5 pe' (.lst (nV (bgL (1 + n) gs))) = H6 at u6 f6 f56 t6 ⊢
  refine ⟨pe', rfl, ⟨_, SqL.of f6⟩, for_enum (xs := nV (bgL (1 + n) gs)) (fun i σ H' => ∃ (x3 x4 : Option V) (pl : List Nat), σ = [some (.ref B.b), some (.ref po), some (.ref pp), x3, x4, none, none, none] ∧ Same H H' ∧ H' pe' = some (.lst (nV (bgL (1 + n) gs))) ∧ H' pp = some (.lst (nV pl)) ∧ Plc n gs i pl) ⟨_, _, PL, rfl, t6, f6, f56, hP0⟩ ?_ ?_ ?_⟩
  · rintro i σ H' _ ⟨_, _, _, _, _, h, _⟩
    exact SqL.of h
  · rintro i x pt σ H' hx ⟨x3, x4, pl, rfl, s', fe, fp, hPl⟩ hpt
    have hi : i < gs.length := by have := (List.getElem?_eq_some_iff.mp hx).1; rw [nV_len, hbL] at this; exact this
    have hgi : (bgL (1 + n) gs)[i]? = some (bgL (1 + n) gs)[i] := List.getElem?_eq_getElem (by omega)
    rw [nV_get (by omega)] at hx
    cases hx
    generalize (bgL (1 + n) gs)[i] = j at hgi ⊢
    obtain ⟨b1, b2⟩ := bgL_at hgi
    refine ⟨pt, _, rfl, SqT.of upd_same, rfl, _, _, rfl, _, _, rfl, rfl, ?_⟩
    have u7 := same_new hpt (.tup [.int (i : Int), .int (j : Int)])
    generalize upd H' pt (.tup [.int (i : Int), .int (j : Int)]) = H7 at u7 ⊢
    have s7 := s'.trans u7
    have hB7 := hB.same s7
    have fp7 := u7 _ _ fp
    refine ⟨_, rfl, B.b, A.c_Bench, B.dx, _, _, rfl, hB7.ob, T.cl_Bench, T.n_Bench_ins, bFs_ins, _, _, rfl, rfl, _, rfl, _, _, rfl, rfl, _, rfl, _, rfl, pp, _, _, j, rfl, rfl, fp7, ?_, ?_⟩
    · exact ixN_nat (by rw [nV_len, hPl.len]; exact b2)
    · dsimp only
      rw [show (1 + (n : Int) + (i : Int)) = ((1 + n + i : Nat) : Int) by omega, nV_set]
      exact ⟨_, _, _, rfl, s7.upd hppH _, by rw [upd_ne npe.symm]; exact u7 _ _ fe, upd_same, hPl.set hgi⟩
  · rintro σ H' ⟨x3, x4, pl, rfl, s7, fe, fp, hPl⟩
    rw [nV_len, hbL] at hPl
    have hpll := hPl.len
    refine ⟨(by show 0 ≤ sizeLine; decide), fun px hpx => ?_⟩
    have npx : pp ≠ px := ne_of_none fp hpx
    have hpxH := s7.free hpx
    have s8 := s7.trans (same_new hpx (.lst []))
    have fp8 := (same_new hpx (.lst [])) _ _ fp
    have fx8 := upd_same (H := H') (a := px) (o := .lst [])
    generalize upd H' px (.lst []) = H8 at s8 fp8 fx8 ⊢
    have hB8 := hB.same s8
    have hbo : (bxo pl DV fs (bkn (1 + n) gs)).length = fs.length := by unfold bxo; rw [List.length_map, List.length_zip]; omega
    refine ⟨_, rfl, B.b, A.c_Bench, B.dx, _, _, rfl, hB8.ob, T.cl_Bench, T.n_Bench_firsts, bFs_firsts, _, rfl, B.b, A.c_Bench, B.dx, _, _, rfl, hB8.ob, T.cl_Bench, T.n_Bench_box_knots, bFs_box, B.pf, B.pb, rfl, ⟨_, SqL.of hB8.hf⟩, ⟨_, SqL.of hB8.hb⟩, for_zip (xs := fs.map V.int) (ys := nV (bkn (1 + n) gs)) (fun i σ H' => ∃ (x3 x4 x6 : Option V) (rs : List Addr), σ = [some (.ref B.b), some (.ref po), some (.ref pp), x3, x4, some (.ref px), x6, none] ∧ Same H H' ∧ H' pp = some (.lst (nV pl)) ∧ PrsR H' px rs ((bxi (bxo pl DV fs (bkn (1 + n) gs))).take i)) ⟨_, _, _, [], rfl, s8, fp8, fx8, .nil⟩ ?_ ?_ ?_ ?_⟩
    · rintro i σ H' ⟨_, _, _, _, _, s, _⟩
      exact ⟨SqL.of (hB.same s).hf, SqL.of (hB.same s).hb⟩
    · rw [List.length_map, nV_len, hfl]
    · rintro i x y pt σ H9 hx hy ⟨x3, x4, x6, rs, rfl, s9, fp9, hP9⟩ hpt
      have hi : i < fs.length := by have := (List.getElem?_eq_some_iff.mp hx).1; rw [List.length_map] at this; exact this
      have hi2 : i < (bkn (1 + n) gs).length := by omega
      have hgi : (bkn (1 + n) gs)[i]? = some (bkn (1 + n) gs)[i] := List.getElem?_eq_getElem hi2
      rw [nV_get hi2] at hy
      cases hy
      rw [List.getElem?_map, List.getElem?_eq_getElem hi] at hx
      cases hx
      have e2 : (bxi (bxo pl DV fs (bkn (1 + n) gs))).take (i + 1) = (bxi (bxo pl DV fs (bkn (1 + n) gs))).take i ++ [(fs[i], ((pe pl ((DV (bkn (1 + n) gs)[i]).getD (2 * (bkn (1 + n) gs)[i])) : Nat) : Int))] := by
        refine take_get ?_
        unfold bxi bxo
        rw [List.getElem?_map, List.getElem?_map, (List.getElem?_zip_eq_some (z := (fs[i], (bkn (1 + n) gs)[i]))).mpr ⟨List.getElem?_eq_getElem hi, hgi⟩]
        rfl
      obtain ⟨ai, ea, ca⟩ := bkn_at _ _ _ _ hgi
      have hail := (List.getElem?_eq_some_iff.mp ca).1
      generalize (bkn (1 + n) gs)[i] = kk at hgi e2 ea ⊢
      refine ⟨pt, _, rfl, SqT.of upd_same, rfl, _, _, rfl, _, _, rfl, rfl, ?_⟩
      have u9 := same_new hpt (.tup [.int fs[i], .int (kk : Int)])
      generalize upd H9 pt (.tup [.int fs[i], .int (kk : Int)]) = Ha at u9 ⊢
      have sa := s9.trans u9
      have hBa := hB.same sa
      have hPa := hP9.same u9
      have hPq := hPa.length
      rw [List.length_take, bxi_len, hbo] at hPq
      obtain ⟨dr, hd, _, hdr⟩ := hBa.hd
      have hge : (DV kk).getD (2 * kk) / 2 < pl.length := by
        cases hz : DV kk with
        | none => show 2 * kk / 2 < pl.length; omega
        | some z => rw [hpll]; exact hdv kk z hz
      refine ⟨_, rfl, .inl ⟨rfl, _, SqL.of hPa.1⟩, _, rfl, _, rfl, _, rfl, B.b, A.c_Bench, B.dx, _, _, rfl, hBa.ob, T.cl_Bench, T.n_Bench_drivers, bFs_dri, B.pd, rfl, .inl ⟨_, .inl hd⟩, _, rfl, _, rfl, _, _, rfl, rfl, .inl ⟨by decide, by decide⟩, _, DGet.k (k := .inl (kk : Int)) hd, pp, pl, (DV kk).getD (2 * kk), ?_, u9 _ _ fp9, hge, (by show 2 ≤ sizeLine; decide), fun pb hpb => ?_⟩
      · rw [hdr kk]
        cases hz : DV kk with
        | none =>
          show [V.ref pp, V.int (2 * (kk : Int))] = [V.ref pp, V.int ((2 * kk : Nat) : Int)]
          rw [show (2 : Int) * (kk : Int) = ((2 * kk : Nat) : Int) by omega]
        | some z => rfl
      have nbx : px ≠ pb := ne_of_none hPa.1 hpb
      refine ⟨px, _, _, rfl, rfl, (by rw [upd_ne nbx]; exact hPa.1), (by rw [List.length_map]; exact smallL (by omega)), ?_⟩
      refine ⟨_, _, _, rs ++ [pb], rfl, (sa.trans (same_new hpb _)).upd hpxH _, ?_, ?_⟩
      · rw [upd_ne npx, upd_ne (ne_of_none (u9 _ _ fp9) hpb)]
        exact u9 _ _ fp9
      · rw [e2]
        exact hPa.push hpb fs[i] _
    · rintro σ H9 ⟨x3, x4, x6, rs, rfl, s9, fp9, hP9⟩
      rw [List.length_map, ← hbo, ← bxi_len (xs := bxo pl DV fs (bkn (1 + n) gs)), List.take_length] at hP9
      have hB9 := hB.same s9
      obtain ⟨gr, hg9⟩ := hB9.hg
      have hgl : ((gat gs).map ci).length = (gat gs).length := List.length_map _
      have hga := gat_len gs (1 + n)
      have egp : (gat gs).map ci = (gat gs).map fun g => ci (g.1, g.2) := rfl
      refine ⟨_, rfl, B.b, A.c_Bench, B.dx, _, _, rfl, hB9.ob, T.cl_Bench, T.n_Bench_gates, bFs_gates, B.pg, rfl, ⟨_, SqL.of hg9.1⟩, comp_pairs_tup (fun p => (((pe pl p.1.toNat : Nat) : Int), ((pe pl p.2.toNat : Nat) : Int))) hg9 (by omega) (fun p hp H1 s1 N hN => ?_) fun gr' Hb sb hb' pg' hpg' => ?_⟩
      · obtain ⟨g, hgm, rfl⟩ := List.mem_map.mp hp
        obtain ⟨j, hj, ej⟩ := List.getElem_of_mem hgm
        have hjk : j < (gkn (1 + n) gs).length := by omega
        obtain ⟨i, g', eg, cg, dg⟩ := gkn_at gs (1 + n) j _ (List.getElem?_eq_getElem hjk)
        rw [List.getElem?_eq_getElem hj, ej] at dg
        cases dg
        have hok := hB.ok i g cg
        have hil := (List.getElem?_eq_some_iff.mp cg).1
        exact ⟨_, rfl, _, rfl, pp, _, g.1, rfl, s1 _ _ fp9, by omega, _, rfl, _, rfl, pp, _, g.2, rfl, s1 _ _ fp9, by omega, (by show 2 ≤ sizeLine; decide), hN⟩
      · rw [show ((gat gs).map ci).map (fun p => (((pe pl p.1.toNat : Nat) : Int), ((pe pl p.2.toNat : Nat) : Int))) = (gpl pl gs).map ci by unfold gpl; rw [List.map_map, List.map_map]; rfl] at hb'
        have hPg := PrsR.mk hb' hpg'
        have uc := same_new hpg' (.lst (gr'.map V.ref))
        have hpgH := (s9.trans sb).free hpg'
        have sc := (s9.trans sb).trans uc
        have hPx := (hP9.same sb).same uc
        have fpc := (sb.trans uc) _ _ fp9
        generalize upd Hb pg' (.lst (gr'.map V.ref)) = Hc at hPg uc sc hPx fpc ⊢
        have hBc := hB.same sc
        refine ⟨_, rfl, B.b, A.c_Bench, B.dx, _, _, rfl, hBc.ob, T.cl_Bench, T.n_Bench_ins, bFs_ins, _, rfl, _, rfl, _, rfl, po, rfl, ⟨_, SqL.of (sc _ _ hpo)⟩, comp_list_map (fun v => match v with | .int e => .int ((pe pl e.toNat : Nat) : Int) | v => v) (SqL.of (sc _ _ hpo)) (by rw [nV_len]; omega) (fun v hv N hN => ?_) fun po' hpo' => ?_⟩
        · obtain ⟨e, he, rfl⟩ := List.mem_map.mp hv
          exact ⟨_, rfl, _, rfl, pp, _, e, rfl, fpc, by rw [hpll]; exact hlt e he, hN⟩
        · have e5 : (nV es).map (fun v => match v with | .int e => V.int ((pe pl e.toNat : Nat) : Int) | v => v) = nV (es.map (pe pl)) := by
            unfold nV
            rw [List.map_map, List.map_map]
            rfl
          rw [e5]
          have ngo : pg' ≠ po' := ne_of_none hPg.1 hpo'
          have hpoH := sc.free hpo'
          have ud := same_new hpo' (.lst (nV (es.map (pe pl))))
          have fo := upd_same (H := Hc) (a := po') (o := .lst (nV (es.map (pe pl))))
          generalize upd Hc po' (.lst (nV (es.map (pe pl)))) = Hd at ud fo ⊢
          have sd := sc.trans ud
          refine ⟨(by show 4 ≤ sizeLine; decide), fun pw hpw => ?_⟩
          have ue := same_new hpw (.tup [.int (n : Int), .ref px, .ref pg', .ref po'])
          exact q pl pw px pg' po' _ hPl (sd.free hpw) hpxH hpgH hpoH ngo (sd.trans ue) ⟨upd_same, ⟨rs, (hPx.same ud).same ue⟩, ⟨gr', (hPg.same ud).same ue⟩, by rw [show (cN (es.map (pe pl))).map V.int = nV (es.map (pe pl)) from (nV_eq _).symm]; exact ue _ _ fo⟩
theorem ok_L_cell_at (T : Tx w K mg A) : FnOk P w K mg base CX0 1 A.a_L_cell_at A.d_L_cell_at ["_law_script", "_law_k"] (sp_cell_at K) := by
  refine T.F_L_cell_at.ok sc_L_cell_at (fun vs H Q E h => ?_) (fun cdv A' outer s H vs Q E hr h => ?_)
  · obtain ⟨a, ns, k, rfl, hS, h0, q⟩ := h
    rfl
  obtain ⟨a, ns, k, rfl, hS, h0, q⟩ := h
  refine ⟨_, (pss_cons (ps_if (pt_cmpR op_lt (pv 1) (pe_callB call_len rfl T.len PySem.boot_len (pa_cons (pv 0) pa_nil)) (nomark _)) (pss_one (ps_ret (pe_ix ix_list (pv 0) (pv 1) (fun _ _ => rfl)))) pss_nil)
    (pss_one (ps_ret pe_int))), ?_⟩
  refine ⟨_, rfl, _, rfl, _, _, rfl, .inl ⟨_, hS, rfl⟩, _, _, rfl, rfl, _, rfl, ?_⟩
  refine ite2 (fun c => ?_) (fun c => ?_)
  · have c' : k < (((ns.map V.int).length : Nat) : Int) := of_decide_eq_true c
    rw [List.length_map] at c'
    obtain ⟨v, hv⟩ := at_mapI h0 c'
    exact ⟨_, rfl, _, rfl, a, _, _, _, rfl, rfl, hS, hv, q v⟩
  · exact q 0
theorem ok_L_bag (T : Tx w K mg A) (G_L_cell_at : FnOk P w K mg base CX0 1 A.a_L_cell_at A.d_L_cell_at ["_law_script", "_law_k"] (sp_cell_at K)) : FnOk P w K mg base CX0 2 A.a_L_bag A.d_L_bag ["_law_script", "_law_k"] (sp_B_bag K) := by
  refine T.F_L_bag.ok sc_L_bag (fun vs H Q E h => ?_) (fun cdv A' outer s H vs Q E hr h => ?_)
  · obtain ⟨a, ns, k, rfl, hS, h0, h9, q⟩ := h
    rfl
  obtain ⟨a, ns, k, rfl, hS, h0, h9, q⟩ := h
  refine ⟨_, (pss_cons (ps_set (i := 2) sc_L_bag.nd rfl (Or.inl rfl) (pe_call G_L_cell_at (hr.mono (by first | decide | omega)) rfl T.M_L_cell_at T.F_L_cell_at.kp T.B_L_cell_at .nil pass0 (pa_cons (pv 0) (pa_cons (pv 1) pa_nil))))
    (pss_one (ps_ret (pe_lst (pa_cons (pe_op op_mul (pv 2) (pe_callTy call_int1 rfl T.int PyProof.Rows.boot_int (pa_cons (pe_cmpR op_ge (pv 2) (pe_op op_pow pe_int pe_int) (nomark _)) pa_nil))) (pa_cons (pe_op op_add (pe_op op_add (pe_op op_add (pe_op op_mod (pv 2) pe_int) (pe_op op_mul (pe_op op_mul pe_int (pv 1)) (pv 1))) (pe_op op_mul pe_int (pv 1))) pe_int) pa_nil)))))), ?_⟩
  refine ⟨_, rfl, _, rfl, a, ns, k, rfl, hS, h0, fun v => ?_⟩
  refine ⟨_, rfl, _, rfl, _, _, rfl, rfl, ⟨by decide, by decide, by decide⟩, _, _, rfl, rfl, .inr ⟨_, rfl, _, _, rfl, rfl, .inr ⟨?_, ?_⟩, _, rfl, _, _, rfl, rfl, (by show (0 : Int) < 2147483647; decide), _, rfl, _, _, rfl, rfl, .inl ⟨by decide, by decide⟩, _, rfl, _, _, rfl, rfl, .inr ⟨Int.lt_of_lt_of_le (by decide) h0, Int.lt_trans h9 (by decide)⟩, _, _, rfl, rfl, _, rfl, _, _, rfl, rfl, .inl ⟨by decide, by decide⟩, _, _, rfl, rfl, _, _, rfl, rfl, (by show 2 ≤ sizeLine; decide), fun l hl => ?_⟩⟩
  · split <;> decide
  · split <;> decide
  · refine q l _ _ hl ?_
    split
    · rename_i h
      have := of_decide_eq_true h
      have e : (10 : Int) ^ (18 : Int).toNat = 1000000000000000000 := by decide
      omega
    · omega
theorem ok_L_take (T : Tx w K mg A) : FnOk P w K mg base CX0 1 A.a_L_take A.d_L_take ["_law_bag_here", "_law_many"] sp_L_take := by
  refine T.F_L_take.ok sc_L_take (fun vs H Q E h => ?_) (fun cdv A' outer s H vs Q E hr h => ?_)
  · obtain ⟨l, many, rfl, ⟨b0, b1, hl, hb0⟩, h0, hbig, q⟩ := h
    rfl
  obtain ⟨l, many, rfl, ⟨b0, b1, hl, hb0⟩, h0, hbig, q⟩ := h
  refine ⟨_, (pss_cons (ps_if (pt_cmpR op_gt (pe_ix ix_list (pv 0) pe_int (fun _ _ => rfl)) pe_int (nomark _)) (pss_cons (ps_set (i := 2) sc_L_take.nd rfl (Or.inl rfl) (pe_op op_mod (pe_ix ix_list (pv 0) pe_int (fun _ _ => rfl)) (pv 1)))
    (pss_cons (ps_asg (pe_op op_fdivL (pe_ix ix_list (pv 0) pe_int (fun _ _ => rfl)) (pv 1)) (pg_sub (pv 0) pe_int set_list))
    (pss_one (ps_ret (pv 2))))) pss_nil)
    (pss_cons (ps_asg (pe_op op_mod (pe_op op_add (pe_op op_mul (pe_ix ix_list (pv 0) pe_int (fun _ _ => rfl)) pe_int) pe_int) pe_int) (pg_sub (pv 0) pe_int set_list))
    (pss_one (ps_ret (pe_op op_mod (pe_op op_fdivL (pe_op op_mod (pe_op op_mul (pe_ix ix_list (pv 0) pe_int (fun _ _ => rfl)) pe_int) pe_int) pe_int) (pv 1)))))), ?_⟩
  refine ⟨_, rfl, l, _, 0, _, rfl, rfl, SqL.of hl, rfl, _, _, rfl, rfl, _, rfl, ?_⟩
  refine ite2 (fun c => ?_) (fun c => ?_)
  · have c' : 0 < b0 := of_decide_eq_true c
    refine ⟨_, rfl, l, _, 0, _, rfl, rfl, SqL.of hl, rfl, _, rfl, _, _, rfl, rfl, h0, ?_⟩
    refine ⟨_, rfl, l, _, 0, _, rfl, rfl, SqL.of hl, rfl, _, rfl, _, _, rfl, rfl, ⟨h0, hbig⟩, _, rfl, l, _, 0, 0, rfl, rfl, hl, rfl, ?_⟩
    refine ⟨_, rfl, ?_⟩
    exact q _ _ (Int.emod_nonneg _ (by omega)) (Int.emod_lt_of_pos _ h0) (Bg.put _ _ (Int.ediv_nonneg hb0 (by omega)))
  · refine ⟨_, rfl, l, _, 1, _, rfl, rfl, SqL.of hl, rfl, _, _, rfl, rfl, .inr ⟨by decide, by decide⟩, _, _, rfl, rfl, _, _, rfl, rfl, (by show (0 : Int) < 2147483647; decide), _, rfl, l, _, 1, 1, rfl, rfl, hl, rfl, ?_⟩
    refine ⟨_, rfl, l, _, 1, _, rfl, rfl, SqL.of upd_same, rfl, _, _, rfl, rfl, .inr ⟨by decide, by decide⟩, _, _, rfl, rfl, (by show (0 : Int) < 2147483629; decide), _, _, rfl, rfl, ⟨by decide, by decide⟩, _, rfl, _, _, rfl, rfl, h0, ?_⟩
    exact q _ _ (Int.emod_nonneg _ (by omega)) (Int.emod_lt_of_pos _ h0) (Bg.put _ _ hb0)
theorem ok_L_whole (T : Tx w K mg A) : FnOk P w K mg base CX0 1 A.a_L_whole A.d_L_whole ["_law_found"] sp_whole := by
  refine T.F_L_whole.ok sc_L_whole (fun vs H Q E h => ?_) (fun cdv A' outer s H vs Q E hr h => ?_)
  · obtain ⟨i, rfl, q⟩ := h
    rfl
  obtain ⟨i, rfl, q⟩ := h
  refine ⟨_, (pss_one (ps_ret (pe_and (pe_callB (call_isinst (T := "int")) rfl T.isinstance PyProof.Rows.boot_isinstance (pa_cons (pv 0) (pa_cons (pe_bltn (v := .ty "int") rfl T.int PyProof.Rows.boot_int rfl) pa_nil))) (pe_one (pe_not (pe_callB (call_isinst (T := "bool")) rfl T.isinstance PyProof.Rows.boot_isinstance (pa_cons (pv 0) (pa_cons (pe_bltn (v := .ty "bool") rfl T.bool PyProof.Rows.boot_bool rfl) pa_nil)))))))), ?_⟩
  refine ⟨_, rfl, _, _, true, rfl, TyOf.int _, rfl, _, rfl, ?_⟩
  exact iteT ⟨_, rfl, _, _, false, rfl, TyOf.int _, rfl, _, rfl, q⟩
theorem ok_L_ends (T : Tx w K mg A) (G_L_whole : FnOk P w K mg base CX0 1 A.a_L_whole A.d_L_whole ["_law_found"] sp_whole) : FnOk P w K mg base CX0 2 A.a_L_ends A.d_L_ends ["_law_some", "_law_knots"] sp_ends := by
  refine T.F_L_ends.ok sc_L_ends (fun vs H Q E h => ?_) (fun cdv A' outer s H vs Q E hr h => ?_)
  · obtain ⟨p, xs, N, rfl, hp, hl, hlt, q⟩ := h
    rfl
  obtain ⟨p, xs, N, rfl, hp, hl, hlt, q⟩ := h
  refine ⟨_, (pss_one (ps_ret (pe_callB call_all rfl T.all PyProof.Rows.boot_all (pa_cons (pe_comp [1] (fun _ _ h => h) rfl (pi_or (pi_list (pv 0)) (pi_tup (pv 0))) (fun _ _ _ _ => pts_nil) (fun _ _ _ _ => (pe_and (pe_call G_L_whole (hr.mono (by first | decide | omega)) rfl T.M_L_whole T.F_L_whole.kp T.B_L_whole .nil pass0 (pa_cons (pv 0) pa_nil)) (pe_one (pe_chain op_le op_lt pe_int (pv 0) (pe_op op_mul pe_int (pv 1)))))) rfl (show ∀ j ∈ ([1] : List Nat), j < 2 by decide) (show (["_law_end_here", "_law_knots"] : List Str).Nodup by decide +kernel)) pa_nil)))), ?_⟩
  rcases hp with hp | hp
  · left
    refine ⟨_, rfl, p, rfl, ⟨_, SqL.of hp⟩, comp_list_map (fun _ => .bl true) (SqL.of hp) (by rw [nV_len]; omega) (fun x hx N' hN => ?_) fun pl hpl => ?_⟩
    · obtain ⟨e, he, rfl⟩ := List.mem_map.mp hx
      have hlt' := hlt e he
      refine ⟨_, rfl, _, rfl, _, rfl, iteT ⟨_, rfl, _, _, rfl, rfl, _, rfl, ite_t (decide_eq_true (by omega)) ⟨_, rfl, _, _, rfl, rfl, .inl ⟨by decide, by decide⟩, _, _, rfl, rfl, ?_⟩⟩⟩
      dsimp only
      rw [decide_eq_true (show ((e : Nat) : Int) < 2 * ((N : Nat) : Int) by omega)]
      exact hN
    · rw [map_true]
      refine ⟨rfl, pl, _, rfl, SqL.of upd_same, ?_⟩
      rw [all_true]
      exact q _ (same_new hpl _)
  · right
    refine ⟨_, rfl, p, rfl, ⟨_, SqT.of hp⟩, comp_tup_map (fun _ => .bl true) (SqT.of hp) (by rw [nV_len]; omega) (fun x hx N' hN => ?_) fun pl hpl => ?_⟩
    · obtain ⟨e, he, rfl⟩ := List.mem_map.mp hx
      have hlt' := hlt e he
      refine ⟨_, rfl, _, rfl, _, rfl, iteT ⟨_, rfl, _, _, rfl, rfl, _, rfl, ite_t (decide_eq_true (by omega)) ⟨_, rfl, _, _, rfl, rfl, .inl ⟨by decide, by decide⟩, _, _, rfl, rfl, ?_⟩⟩⟩
      dsimp only
      rw [decide_eq_true (show ((e : Nat) : Int) < 2 * ((N : Nat) : Int) by omega)]
      exact hN
    · rw [map_true]
      refine ⟨rfl, pl, _, rfl, SqL.of upd_same, ?_⟩
      rw [all_true]
      exact q _ (same_new hpl _)
theorem ok_L_formed (T : Tx w K mg A) (G_L_ends : FnOk P w K mg base CX0 2 A.a_L_ends A.d_L_ends ["_law_some", "_law_knots"] sp_ends) (G_L_whole : FnOk P w K mg base CX0 1 A.a_L_whole A.d_L_whole ["_law_found"] sp_whole) : FnOk P w K mg base CX0 3 A.a_L_formed A.d_L_formed ["_law_work", "_law_ins", "_law_firsts", "_law_outs"] sp_formed := by
  refine T.F_L_formed.ok sc_L_formed (fun vs H Q E h => ?_) (fun cdv A' outer s H vs Q E hr h => ?_)
  · obtain ⟨w, b, g, o, pf, n, xs, gs, es, rfl, hW, hpf, hf, hgl, hel, ok, hes, hxs, q⟩ := h
    rfl
  obtain ⟨w, b, g, o, pf, n, xs, gs, es, rfl, hW, hpf, hf, hgl, hel, ok, hes, hxs, q⟩ := h
  refine ⟨_, (pss_cons (ps_if (PW.pt (pw_or (pt_not (pt_truth (pe_callB (call_isinst (T := "tuple")) rfl T.isinstance PyProof.Rows.boot_isinstance (pa_cons (pv 0) (pa_cons (pe_bltn (v := .ty "tuple") rfl T.tuple PyProof.Rows.boot_tuple rfl) pa_nil))) (fun _ => rfl))) (pw_or (pt_cmpR op_ne (pe_callB call_len rfl T.len PySem.boot_len (pa_cons (pv 0) pa_nil)) pe_int (nomark _)) (pw_or (pt_not (pt_truth (pe_call G_L_whole (hr.mono (by first | decide | omega)) rfl T.M_L_whole T.F_L_whole.kp T.B_L_whole .nil pass0 (pa_cons (pe_ix ix_tup (pv 0) pe_int (fun _ _ => rfl)) pa_nil)) (fun _ => rfl))) (pw_or1 (pt_cmpR op_ne (pe_ix ix_tup (pv 0) pe_int (fun _ _ => rfl)) (pv 1) (nomark _))))))) (pss_one (ps_ret pe_bl)) pss_nil)
    (pss_cons (ps_if (PW.pt (pw_or (pt_not (pt_truth (pe_callB call_all rfl T.all PyProof.Rows.boot_all (pa_cons (pe_comp [] (fun _ _ h => h) rfl (pi_tup (pe_slice sl_tupE (pv 0) (po_some pe_int) po_none)) (fun _ _ _ _ => pts_nil) (fun _ _ _ _ => (pe_callB (call_isinstK (K := K) rfl (T := "list")) rfl T.isinstance PyProof.Rows.boot_isinstance (pa_cons (pv 0) (pa_cons (pe_bltn (v := .ty "list") rfl T.list PyProof.Rows.boot_list rfl) pa_nil)))) rfl (show ∀ j ∈ ([] : List Nat), j < 8 by decide) (show (["_law_some"] : List Str).Nodup by decide +kernel)) pa_nil)) (fun _ => rfl))) (pw_or1 (pt_cmpR op_ne (pe_callB call_len rfl T.len PySem.boot_len (pa_cons (pe_ix ix_tup (pv 0) pe_int (fun _ _ => rfl)) pa_nil)) (pe_callB call_len rfl T.len PySem.boot_len (pa_cons (pv 2) pa_nil)) (nomark _))))) (pss_one (ps_ret pe_bl)) pss_nil)
    (pss_cons (ps_set (i := 4) sc_L_formed.nd rfl (Or.inl rfl) (pe_op op_add (pe_op op_add pe_int (pv 1)) (pe_callB call_len rfl T.len PySem.boot_len (pa_cons (pv 2) pa_nil))))
    (pss_cons (ps_for PassesOwn.never rfl (pi_list (pe_ix ix_tup (pv 0) pe_int (fun _ _ => rfl))) (pg_name (i := 5) sc_L_formed.nd rfl (Or.inl rfl))
        (pss_cons (ps_if (PW.pt (pw_or (pt_not (pt_truth (pe_callB (call_isinst (T := "tuple")) rfl T.isinstance PyProof.Rows.boot_isinstance (pa_cons (pv 5) (pa_cons (pe_bltn (v := .ty "tuple") rfl T.tuple PyProof.Rows.boot_tuple rfl) pa_nil))) (fun _ => rfl))) (pw_or (pt_cmpR op_ne (pe_callB call_len rfl T.len PySem.boot_len (pa_cons (pv 5) pa_nil)) pe_int (nomark _)) (pw_or1 (pt_not (pt_truth (pe_call G_L_ends (hr.mono (by first | decide | omega)) rfl T.M_L_ends T.F_L_ends.kp T.B_L_ends .nil pass0 (pa_cons (pv 5) (pa_cons (pv 4) pa_nil))) (fun _ => rfl))))))) (pss_one (ps_ret pe_bl)) pss_nil)
    (pss_one (ps_set (i := 4) sc_L_formed.nd rfl (Or.inl rfl) (pe_op op_add (pv 4) pe_int)))))
    (pss_cons (ps_for PassesOwn.never rfl (pi_range1 rfl T.range (pa_cons (pe_callB call_len rfl T.len PySem.boot_len (pa_cons (pv 2) pa_nil)) pa_nil)) (pg_name (i := 6) sc_L_formed.nd rfl (Or.inl rfl))
        (pss_cons (ps_set (i := 7) sc_L_formed.nd rfl (Or.inl rfl) (pe_ix ix_list (pe_ix ix_tup (pv 0) pe_int (fun _ _ => rfl)) (pv 6) (fun _ _ => rfl)))
    (pss_cons (ps_if (PW.pt (pw_or (pt_not (pt_truth (pe_callB (call_isinst (T := "tuple")) rfl T.isinstance PyProof.Rows.boot_isinstance (pa_cons (pv 7) (pa_cons (pe_bltn (v := .ty "tuple") rfl T.tuple PyProof.Rows.boot_tuple rfl) pa_nil))) (fun _ => rfl))) (pw_or (pt_cmpR op_ne (pe_callB call_len rfl T.len PySem.boot_len (pa_cons (pv 7) pa_nil)) pe_int (nomark _)) (pw_or (pt_not (pt_truth (pe_call G_L_whole (hr.mono (by first | decide | omega)) rfl T.M_L_whole T.F_L_whole.kp T.B_L_whole .nil pass0 (pa_cons (pe_ix ix_tup (pv 7) pe_int (fun _ _ => rfl)) pa_nil)) (fun _ => rfl))) (pw_or1 (pt_cmpR op_ne (pe_ix ix_tup (pv 7) pe_int (fun _ _ => rfl)) (pe_ix ix_list (pv 2) (pv 6) (fun _ _ => rfl)) (nomark _))))))) (pss_one (ps_ret pe_bl)) pss_nil)
    (pss_one (ps_if (pt_not (pt_truth (pe_call G_L_ends (hr.mono (by first | decide | omega)) rfl T.M_L_ends T.F_L_ends.kp T.B_L_ends .nil pass0 (pa_cons (pe_slice sl_tupE (pv 7) (po_some pe_int) po_none) (pa_cons (pv 4) pa_nil))) (fun _ => rfl))) (pss_one (ps_ret pe_bl)) pss_nil)))))
    (pss_one (ps_ret (pe_and (pe_cmpR op_eq (pe_callB call_len rfl T.len PySem.boot_len (pa_cons (pe_ix ix_tup (pv 0) pe_int (fun _ _ => rfl)) pa_nil)) (pv 3) (nomark _)) (pe_one (pe_call G_L_ends (hr.mono (by first | decide | omega)) rfl T.M_L_ends T.F_L_ends.kp T.B_L_ends .nil pass0 (pa_cons (pe_ix ix_tup (pv 0) pe_int (fun _ _ => rfl)) (pa_cons (pv 4) pa_nil)))))))))))), ?_⟩
  refine ⟨_, rfl, _, _, true, rfl, TyOf.tup hW.w, rfl, _, rfl, ?_⟩
  refine ite_f rfl ⟨_, rfl, _, _, rfl, .inr ⟨_, SqT.of hW.w, rfl⟩, rfl, _, rfl, ?_⟩
  refine ite_f rfl ⟨_, rfl, w, _, _, _, rfl, rfl, SqT.of hW.w, rfl, _, rfl, _, rfl, ?_⟩
  refine ite_f rfl ⟨_, rfl, w, _, _, _, rfl, rfl, SqT.of hW.w, rfl, _, rfl, rfl, _, rfl, ?_⟩
  refine ite_f (by rw [decide_eq_true rfl]; rfl) ?_
  refine ⟨_, rfl, _, rfl, w, _, rfl, hW.w, fun p2 H2 s2 f2 => ?_⟩
  have hW2 := hW.same s2
  obtain ⟨bs, hb2⟩ := hW2.b
  obtain ⟨rs, hg2⟩ := hW2.g
  have hcut : cutV [V.int (n : Int), .ref b, .ref g, .ref o] (some 1) none = [.ref b, .ref g, .ref o] := cut_from (n := 1) (by simp)
  rw [hcut] at f2
  refine ⟨p2, rfl, ⟨_, SqT.of f2⟩, comp_tup_map (fun _ => .bl true) (SqT.of f2) (by show 3 ≤ 100000; decide) (fun x hx N' hN => ?_) fun pl hpl => ?_⟩
  · simp only [List.mem_cons, List.not_mem_nil, or_false] at hx
    rcases hx with rfl | rfl | rfl
    · exact ⟨_, rfl, _, _, true, rfl, TyOf.lst hb2.1, rfl, hN⟩
    · exact ⟨_, rfl, _, _, true, rfl, TyOf.lst hg2.1, rfl, hN⟩
    · exact ⟨_, rfl, _, _, true, rfl, TyOf.lst hW2.o, rfl, hN⟩
  rw [map_true]
  have s3 := s2.trans (same_new hpl (.lst ((List.replicate 3 true).map V.bl)))
  have f3 := upd_same (H := H2) (a := pl) (o := .lst ((List.replicate 3 true).map V.bl))
  show _
  refine ⟨rfl, pl, List.replicate 3 true, rfl, SqL.of f3, ?_⟩
  generalize upd H2 pl (.lst ((List.replicate 3 true).map V.bl)) = H3 at s3 f3 ⊢
  have hW3 := hW.same s3
  obtain ⟨bs, hb3⟩ := hW3.b
  obtain ⟨rs, hg3⟩ := hW3.g
  have hbl := hb3.length
  have hrl := hg3.length
  rw [bxi_len] at hbl
  rw [List.length_map] at hrl
  refine ⟨_, rfl, ?_⟩
  refine ite_f rfl ⟨_, rfl, w, _, _, _, rfl, rfl, SqT.of hW3.w, rfl, _, _, rfl, .inl ⟨_, SqL.of hb3.1, rfl⟩, _, rfl, _, _, rfl, .inl ⟨_, SqL.of (s3 _ _ hpf), rfl⟩, rfl, _, rfl, ?_⟩
  refine ite_f (by rw [List.length_map, List.length_map, List.length_map, hbl, decide_eq_true rfl]; rfl) ?_
  refine ⟨_, rfl, _, _, rfl, rfl, _, rfl, _, _, rfl, .inl ⟨_, SqL.of (s3 _ _ hpf), rfl⟩, _, _, rfl, rfl, ?_⟩
  refine ⟨_, rfl, w, _, _, _, rfl, rfl, SqT.of hW3.w, rfl, g, rfl, ⟨_, SqL.of hg3.1⟩, for_list (xs := rs.map V.ref) (fun i σ H' => ∃ x5 x6 x7 : Option V, σ = [some (.ref w), some (.int (n : Int)), some (.ref pf), some (.int ((es.length : Nat) : Int)), some (.int ((1 + n + xs.length + i : Nat) : Int)), x5, x6, x7] ∧ Same H3 H') ⟨none, none, none, ?_, Same.refl _⟩ ?_ ?_ ?_⟩
  · rw [List.length_map, List.length_map, show ((1 + n + xs.length + 0 : Nat) : Int) = 1 + (n : Int) + (xs.length : Int) by omega]
    rfl
  · rintro i σ H' _ ⟨_, _, _, _, s'⟩
    exact SqL.of (s' _ _ hg3.1)
  · rintro i x σ H' hx ⟨x5, x6, x7, rfl, s'⟩
    have hi : i < gs.length := by have := (List.getElem?_eq_some_iff.mp hx).1; rw [List.length_map] at this; omega
    obtain ⟨r, h1, h2⟩ := hg3.get (i := i) (by rw [List.length_map]; exact hi)
    rw [h1] at hx
    cases hx
    have h2' := s' _ _ h2
    rw [List.getElem_map] at h2'
    have hok := ok i gs[i] (List.getElem?_eq_getElem hi)
    refine ⟨_, rfl, _, _, true, rfl, TyOf.tup h2', rfl, _, rfl, ?_⟩
    refine ite_f rfl ⟨_, rfl, _, _, rfl, .inr ⟨_, SqT.of h2', rfl⟩, rfl, _, rfl, ?_⟩
    refine ite_f rfl ⟨_, rfl, _, rfl, r, [gs[i].1, gs[i].2], 1 + n + xs.length + i, rfl, .inr h2', (by show 2 ≤ 2000; decide), fun x hx => ?_, fun H5 s5 => ⟨_, rfl, ?_⟩⟩
    · simp only [List.mem_cons, List.not_mem_nil, or_false] at hx
      rcases hx with rfl | rfl
      · exact hok.1
      · exact hok.2
    refine ite_f rfl ⟨_, rfl, _, _, rfl, rfl, ?_⟩
    refine ⟨some (.ref r), x6, x7, ?_, s'.trans s5⟩
    dsimp only
    rw [show ((1 + n + xs.length + i : Nat) : Int) + 1 = ((1 + n + xs.length + (i + 1) : Nat) : Int) by omega]
    rfl
  · rintro σ H4 ⟨x5, x6, x7, rfl, s4⟩
    rw [List.length_map, hrl]
    have s04 := s3.trans s4
    refine ⟨_, rfl, _, _, rfl, .inl ⟨_, SqL.of (s04 _ _ hpf), rfl⟩, _, rfl, by rw [List.length_map, List.length_map]; omega, by rw [List.length_map, List.length_map]; omega, for_range (lo := 0) (fun i σ H' => ∃ x5 x6 x7 : Option V, σ = [some (.ref w), some (.int (n : Int)), some (.ref pf), some (.int ((es.length : Nat) : Int)), some (.int ((1 + n + xs.length + gs.length : Nat) : Int)), x5, x6, x7] ∧ Same H4 H') ⟨_, _, _, rfl, Same.refl _⟩ ?_ ?_⟩
    · rintro i σ H' hi ⟨x5, x6, x7, rfl, s'⟩
      rw [List.length_map, List.length_map] at hi
      have hi' : i < xs.length := by omega
      have s05 := s04.trans s'
      have hW5 := hW.same s05
      obtain ⟨bs5, hb5⟩ := hW5.b
      obtain ⟨r, h1, h2⟩ := hb5.get (i := i) (by rw [bxi_len]; exact hi')
      have eb : (bxi xs)[i]'(by rw [bxi_len]; exact hi') = (xs[i].1, ((xs[i].2 : Nat) : Int)) := by unfold bxi; rw [List.getElem_map]
      rw [eb] at h2
      refine ⟨_, rfl, w, _, _, _, rfl, rfl, SqT.of hW5.w, rfl, _, rfl, b, _, _, _, rfl, rfl, SqL.of hb5.1, at0 h1, ?_⟩
      refine ⟨_, rfl, _, _, true, rfl, TyOf.tup h2, rfl, _, rfl, ?_⟩
      refine ite_f rfl ⟨_, rfl, _, _, rfl, .inr ⟨_, SqT.of h2, rfl⟩, rfl, _, rfl, ?_⟩
      refine ite_f rfl ⟨_, rfl, r, _, _, _, rfl, rfl, SqT.of h2, rfl, _, rfl, _, rfl, ?_⟩
      refine ite_f rfl ⟨_, rfl, r, _, _, _, rfl, rfl, SqT.of h2, rfl, _, rfl, _, rfl, pf, _, _, _, rfl, rfl, SqL.of (s05 _ _ hpf), at0 (show ((xs.map Prod.fst).map V.int)[i]? = some (.int xs[i].1) by rw [List.getElem?_map, List.getElem?_map, List.getElem?_eq_getElem hi']; rfl), rfl, _, rfl, ?_⟩
      refine ite_f (by rw [decide_eq_true rfl]; rfl) ?_
      refine ⟨_, rfl, _, rfl, r, _, rfl, h2, fun p6 H6 s6 f6 => ?_⟩
      have hcut6 : cutV [V.int xs[i].1, .int ((xs[i].2 : Nat) : Int)] (some 1) none = nV [xs[i].2] := cut_from (n := 1) (by simp)
      rw [hcut6] at f6
      refine ⟨_, rfl, p6, [xs[i].2], 1 + n + xs.length + gs.length, rfl, .inr f6, by simp, (fun x hx => by rw [List.mem_singleton.mp hx]; exact hxs _ (List.getElem_mem hi')), fun H7 s7 => ⟨_, rfl, ?_⟩⟩
      exact ite_f rfl ⟨_, _, _, rfl, s'.trans (s6.trans s7)⟩
    · rintro σ H5 ⟨x5, x6, x7, rfl, s5⟩
      have hW5 := hW.same (s04.trans s5)
      have ho : (cN es).map V.int = nV es := (nV_eq es).symm
      have ho5 := hW5.o
      rw [show (Wk.mk n (bxi xs) (gs.map ci) (cN es)).outs = cN es from rfl, ho] at ho5
      refine ⟨_, rfl, w, _, _, _, rfl, rfl, SqT.of hW5.w, rfl, _, _, rfl, .inl ⟨_, SqL.of ho5, rfl⟩, _, rfl, rfl, _, rfl, ?_⟩
      refine ite_t (by rw [nV_len]; exact decide_eq_true rfl) ⟨_, rfl, w, _, _, _, rfl, rfl, SqT.of hW5.w, rfl, _, rfl, o, es, 1 + n + xs.length + gs.length, rfl, .inl ho5, by omega, hes, fun H6 s6 => ?_⟩
      exact q _ ((s04.trans s5).trans s6)
theorem ok_L_side (T : Tx w K mg A) : FnOk P w K mg base CX0 1 A.a_L_side A.d_L_side ["_law_worths", "_law_end_here", "_law_ones"] sp_side := by
  refine T.F_L_side.ok sc_L_side (fun vs H Q E h => ?_) (fun cdv A' outer s H vs Q E hr h => ?_)
  · obtain ⟨p, W, m, e, rfl, hp, he, hlow, q⟩ := h
    rfl
  obtain ⟨p, W, m, e, rfl, hp, he, hlow, q⟩ := h
  refine ⟨_, (pss_cons (ps_if (pt_cmpR op_eq (pe_op op_mod (pv 1) pe_int) pe_int (nomark _)) (pss_one (ps_ret (pe_op op_sub (pv 2) (pe_ix ix_list (pv 0) (pe_op op_fdivL (pv 1) pe_int) (fun _ _ => rfl))))) pss_nil)
    (pss_one (ps_ret (pe_ix ix_list (pv 0) (pe_op op_fdivL (pv 1) pe_int) (fun _ _ => rfl))))), ?_⟩
  have hat : atI (nV W) ((e : Int) / 2) = some (.int ((W.getD (e / 2) 0 : Nat) : Int)) := by
    rw [show ((e : Int) / 2) = ((e / 2 : Nat) : Int) by omega]
    refine atI_nat ?_
    rw [nV_get he, List.getD_eq_getElem?_getD, List.getElem?_eq_getElem he]
    rfl
  have hv := getD_low hlow (e / 2)
  unfold sdN at q
  refine ⟨_, rfl, _, _, rfl, rfl, (by show (0 : Int) < 2; decide), rfl, _, rfl, ?_⟩
  by_cases c : e % 2 = 1
  · rw [if_pos c] at q
    refine ite_t (decide_eq_true (congrArg V.int (by omega))) ⟨_, rfl, _, rfl, _, rfl, _, _, rfl, rfl, ⟨by decide, by decide⟩, p, _, _, _, rfl, rfl, SqL.of hp, hat, _, _, rfl, rfl, ?_⟩
    dsimp only
    rw [show ((2 ^ m - 1 : Nat) : Int) - ((W.getD (e / 2) 0 : Nat) : Int) = ((2 ^ m - 1 - W.getD (e / 2) 0 : Nat) : Int) by omega]
    exact q
  · rw [if_neg c] at q
    exact ite_f (decide_eq_false fun h => by injection h with h; omega) ⟨_, rfl, _, rfl, _, _, rfl, rfl, ⟨by decide, by decide⟩, p, _, _, _, rfl, rfl, SqL.of hp, hat, q⟩
theorem ok_L_beat (T : Tx w K mg A) (G_L_side : FnOk P w K mg base CX0 1 A.a_L_side A.d_L_side ["_law_worths", "_law_end_here", "_law_ones"] sp_side) : FnOk P w K mg base CX0 2 A.a_L_beat A.d_L_beat ["_law_work", "_law_stand", "_law_row", "_law_ones"] sp_beat := by
  refine T.F_L_beat.ok sc_L_beat (fun vs H Q E h => ?_) (fun cdv A' outer s H vs Q E hr h => ?_)
  · obtain ⟨w, b, g, o, ps, pr, n, m, xs, gs, es, st, row, rfl, hW, hps, hpr, hrn, hsn, hn, hf, hgl, hel, lr, ls, ok, hes, hxs, q⟩ := h
    rfl
  obtain ⟨w, b, g, o, ps, pr, n, m, xs, gs, es, st, row, rfl, hW, hps, hpr, hrn, hsn, hn, hf, hgl, hel, lr, ls, ok, hes, hxs, q⟩ := h
  refine ⟨_, (pss_cons (ps_set (i := 4) sc_L_beat.nd rfl (Or.inr rfl) (pe_op op_cat (pe_op op_cat (pe_lst (pa_cons pe_int pa_nil)) (pv 2)) (pv 1)))
    (pss_cons (ps_for PassesOwn.never rfl (pi_list (pe_ix ix_tup (pv 0) pe_int (fun _ _ => rfl))) (pg_tup rfl (pgs_cons (pg_name (i := 5) sc_L_beat.nd rfl (Or.inl rfl)) (pgs_cons (pg_name (i := 6) sc_L_beat.nd rfl (Or.inl rfl)) pgs_nil)))
        (pss_one (ps_expr (pe_bm PySem.F.plainAttrs_list PySem.F.slot_list_append PySem.F.type_list_append mt_append (pv 4) (pa_cons (pe_op op_and (pe_call G_L_side (hr.mono (by first | decide | omega)) rfl T.M_L_side T.F_L_side.kp T.B_L_side .nil pass0 (pa_cons (pv 4) (pa_cons (pv 5) (pa_cons (pv 3) pa_nil)))) (pe_call G_L_side (hr.mono (by first | decide | omega)) rfl T.M_L_side T.F_L_side.kp T.B_L_side .nil pass0 (pa_cons (pv 4) (pa_cons (pv 6) (pa_cons (pv 3) pa_nil))))) pa_nil)))))
    (pss_cons (ps_comp [4, 3] sc_L_beat.nd (i := 7) rfl (Or.inl rfl) (fun _ _ h => h) rfl (pi_list (pe_ix ix_tup (pv 0) pe_int (fun _ _ => rfl))) (fun _ _ _ _ => pts_nil) (fun _ _ _ _ => (pe_call G_L_side (hr.mono (by first | decide | omega)) rfl T.M_L_side T.F_L_side.kp T.B_L_side .nil pass0 (pa_cons (pv 1) (pa_cons (pv 0) (pa_cons (pv 2) pa_nil))))) rfl (show ∀ j ∈ ([4, 3] : List Nat), j < 8 by decide) (show (["_law_end_here", "_law_worths", "_law_ones"] : List Str).Nodup by decide +kernel) (by with_unfolding_all rfl))
    (pss_one (ps_ret (pe_tup (pa_cons (pv 7) (pa_cons (pe_comp [4, 3] (fun _ _ h => h) rfl (pi_list (pe_ix ix_tup (pv 0) pe_int (fun _ _ => rfl))) (fun _ _ _ _ => pts_nil) (fun _ _ _ _ => (pe_call G_L_side (hr.mono (by first | decide | omega)) rfl T.M_L_side T.F_L_side.kp T.B_L_side .nil pass0 (pa_cons (pv 1) (pa_cons (pe_ix (ix_tupK (K := K) rfl) (pv 0) pe_int (fun _ _ => rfl)) (pa_cons (pv 2) pa_nil))))) rfl (show ∀ j ∈ ([4, 3] : List Nat), j < 8 by decide) (show (["_law_box", "_law_worths", "_law_ones"] : List Str).Nodup by decide +kernel)) pa_nil)))))))), ?_⟩
  have lo : Low m (row ++ st) := fun v hv => by
    rcases List.mem_append.mp hv with h | h
    · exact lr v h
    · exact ls v h
  have hk : 1 + (row ++ st).length = 1 + n + xs.length := by rw [List.length_append]; omega
  have ok' : GOk (1 + (row ++ st).length) gs := by rw [hk]; exact ok
  refine ⟨(by show 1 ≤ sizeLine; decide), fun p1 hp1 => ?_⟩
  have t1 := same_new hp1 (.lst [.int 0])
  have f1 := upd_same (H := H) (a := p1) (o := .lst [.int 0])
  generalize upd H p1 (.lst [.int 0]) = H1 at t1 f1 ⊢
  refine ⟨_, rfl, p1, pr, _, _, rfl, rfl, f1, t1 _ _ hpr, small (by rw [nV_len]; simp; omega), fun p2 hp2 => ?_⟩
  have u2 := same_new hp2 (.lst ([.int 0] ++ nV row))
  have f2 := upd_same (H := H1) (a := p2) (o := .lst ([.int 0] ++ nV row))
  generalize upd H1 p2 (.lst ([.int 0] ++ nV row)) = H2 at u2 f2 ⊢
  have t2 := t1.trans u2
  refine ⟨_, rfl, p2, ps, _, _, rfl, rfl, f2, t2 _ _ hps, small (by rw [List.length_append, nV_len, nV_len]; simp; omega), fun pw hpw => ?_⟩
  have e3 : [V.int 0] ++ nV row ++ nV st = nV (Wv m (row ++ st) (gs.take 0)) := by
    unfold nV Wv
    simp
  rw [e3]
  have hpwH := t2.free hpw
  have t3 := t2.trans (same_new hpw (.lst (nV (Wv m (row ++ st) (gs.take 0)))))
  have f3 := upd_same (H := H2) (a := pw) (o := .lst (nV (Wv m (row ++ st) (gs.take 0))))
  show tSeq _ _ _ _ (upd H2 pw (.lst (nV (Wv m (row ++ st) (gs.take 0)))))
  generalize upd H2 pw (.lst (nV (Wv m (row ++ st) (gs.take 0)))) = H3 at t3 f3 ⊢
  have hW3 := hW.same t3
  obtain ⟨rs, hg⟩ := hW.g
  refine ⟨_, rfl, w, _, _, _, rfl, rfl, SqT.of hW3.w, rfl, g, rfl, ⟨_, SqL.of (hg.same t3).1⟩, for_pairs (rs := rs) (ps := gs.map ci) (fun i σ H' => ∃ x5 x6 : Option V, σ = [some (.ref w), some (.ref ps), some (.ref pr), some (.int ((2 ^ m - 1 : Nat) : Int)), some (.ref pw), x5, x6, none] ∧ Same H H' ∧ H' pw = some (.lst (nV (Wv m (row ++ st) (gs.take i))))) ⟨_, _, rfl, t3, f3⟩ ?_ ?_ ?_⟩
  · rintro i σ H' _ ⟨_, _, _, s', _⟩
    exact hg.same s'
  · rintro i σ H' hi ⟨x5, x6, rfl, s', fw⟩
    rw [List.length_map] at hi
    have hgi : gs[i]? = some gs[i] := List.getElem?_eq_getElem hi
    obtain ⟨o1, o2⟩ := ok i gs[i] hgi
    have hWl : (Wv m (row ++ st) (gs.take i)).length = 1 + n + xs.length + i := by rw [Wv_len, hk, List.length_take]; omega
    have low := Wv_low lo (gs.take i)
    rw [List.getElem_map]
    refine ⟨_, rfl, .inl ⟨rfl, _, SqL.of fw⟩, _, rfl, _, rfl, _, rfl, pw, _, m, gs[i].1, rfl, fw, by omega, low, _, rfl, _, rfl, _, rfl, pw, _, m, gs[i].2, rfl, fw, by omega, low, _, _, rfl, rfl, pw, _, _, rfl, rfl, fw, (by rw [nV_len, hWl]; exact smallL (by omega)), ?_⟩
    refine ⟨_, _, rfl, s'.upd hpwH _, ?_⟩
    dsimp only
    rw [upd_same, take_get hgi, Wv_snoc, and_nat]
    unfold nV
    rw [List.map_append]
    rfl
  · rintro σ H4 ⟨x5, x6, rfl, s4, fw⟩
    rw [List.length_map, List.take_length] at fw
    have hWl : (Wv m (row ++ st) gs).length = 1 + n + xs.length + gs.length := by rw [Wv_len, hk]
    have low := Wv_low lo gs
    have hW4 := hW.same s4
    have ho4 : H4 o = some (.lst (nV es)) := by rw [nV_eq]; exact hW4.o
    refine ⟨_, rfl, w, _, _, _, rfl, rfl, SqT.of hW4.w, rfl, o, rfl, ⟨_, SqL.of ho4⟩, comp_list_map (fun v => match v with | .int e => .int ((sdN m (Wv m (row ++ st) gs) e.toNat : Nat) : Int) | v => v) (SqL.of ho4) (by rw [nV_len]; omega) (fun v hv N hN => ?_) fun po hpo => ?_⟩
    · obtain ⟨e, he, rfl⟩ := List.mem_map.mp hv
      have := hes e he
      exact ⟨_, rfl, _, rfl, _, rfl, pw, _, m, e, rfl, fw, by omega, low, hN⟩
    have e5 : (nV es).map (fun v => match v with | .int e => V.int ((sdN m (Wv m (row ++ st) gs) e.toNat : Nat) : Int) | v => v) = nV (es.map (sdN m (Wv m (row ++ st) gs))) := by
      unfold nV
      rw [List.map_map, List.map_map]
      rfl
    rw [e5]
    have hpoH := s4.free hpo
    have u5 := same_new hpo (.lst (nV (es.map (sdN m (Wv m (row ++ st) gs)))))
    have f5 := upd_same (H := H4) (a := po) (o := .lst (nV (es.map (sdN m (Wv m (row ++ st) gs)))))
    generalize upd H4 po (.lst (nV (es.map (sdN m (Wv m (row ++ st) gs))))) = H5 at u5 f5 ⊢
    have s5 := s4.trans u5
    have fw5 := u5 _ _ fw
    have hW5 := hW.same s5
    obtain ⟨bs, hb5⟩ := hW5.b
    have hbl := hb5.length
    rw [bxi_len] at hbl
    refine ⟨_, rfl, _, rfl, w, _, _, _, rfl, rfl, SqT.of hW5.w, rfl, b, rfl, ⟨_, SqL.of hb5.1⟩, comp_prs_map (fun p => .int ((sdN m (Wv m (row ++ st) gs) p.2.toNat : Nat) : Int)) hb5 (by rw [bxi_len]; omega) (fun p hp r hr' N hN => ?_) fun pn hpn => ?_⟩
    · unfold bxi at hp
      obtain ⟨x, hx, rfl⟩ := List.mem_map.mp hp
      have hx2 := hxs x hx
      exact ⟨_, rfl, _, rfl, r, _, _, _, rfl, rfl, SqT.of hr', rfl, _, rfl, pw, _, m, x.2, rfl, fw5, by omega, low, hN⟩
    have e6 : ((bxi xs).map fun p => V.int ((sdN m (Wv m (row ++ st) gs) p.2.toNat : Nat) : Int)) = nV ((xs.map Prod.snd).map (sdN m (Wv m (row ++ st) gs))) := by
      unfold nV bxi
      rw [List.map_map, List.map_map, List.map_map]
      rfl
    rw [e6]
    have u6 := same_new hpn (.lst (nV ((xs.map Prod.snd).map (sdN m (Wv m (row ++ st) gs)))))
    have f6 := upd_same (H := H5) (a := pn) (o := .lst (nV ((xs.map Prod.snd).map (sdN m (Wv m (row ++ st) gs)))))
    generalize upd H5 pn (.lst (nV ((xs.map Prod.snd).map (sdN m (Wv m (row ++ st) gs))))) = H6 at u6 f6 ⊢
    refine ⟨(by show 2 ≤ sizeLine; decide), fun t ht => ?_⟩
    have u7 := same_new ht (.tup [.ref po, .ref pn])
    exact q t po pn _ ((s5.trans u6).trans u7) upd_same (u7 _ _ (u6 _ _ f5)) (u7 _ _ f6)
theorem ok_L_pick (T : Tx w K mg A) (G_L_take : FnOk P w K mg base CX0 1 A.a_L_take A.d_L_take ["_law_bag_here", "_law_many"] sp_L_take) : FnOk P w K mg base CX0 2 A.a_L_pick A.d_L_pick ["_law_bag_here", "_law_many"] sp_pick := by
  refine T.F_L_pick.ok sc_L_pick (fun vs H Q E h => ?_) (fun cdv A' outer s H vs Q E hr h => ?_)
  · obtain ⟨l, N, rfl, hb, h0, hN, q⟩ := h
    rfl
  obtain ⟨l, N, rfl, hb, h0, hN, q⟩ := h
  refine ⟨_, (pss_one (ps_ret (pe_tup (pa_cons (pe_call G_L_take (hr.mono (by first | decide | omega)) rfl T.M_L_take T.F_L_take.kp T.B_L_take .nil pass0 (pa_cons (pv 0) (pa_cons (pv 1) pa_nil))) (pa_cons (pe_cmpR op_eq (pe_call G_L_take (hr.mono (by first | decide | omega)) rfl T.M_L_take T.F_L_take.kp T.B_L_take .nil pass0 (pa_cons (pv 0) (pa_cons pe_int pa_nil))) pe_int (nomark _)) pa_nil))))), ?_⟩
  refine ⟨_, rfl, _, rfl, l, _, rfl, hb, by omega, Int.lt_trans (show (N : Int) < 10000 by omega) (by decide), fun d H1 d0 d1 g1 => ?_⟩
  obtain ⟨i, rfl⟩ := Int.eq_ofNat_of_zero_le d0
  refine ⟨_, rfl, l, 3, rfl, g1.2, by decide, by decide, fun d2 H2 _ _ g2 => ⟨rfl, (by show 2 ≤ sizeLine; decide), fun t ht => ?_⟩⟩
  have g := g1.trans g2
  exact q t (i, decide (V.int d2 = V.int 0)) _ (by
    cases hh : H t with
    | none => rfl
    | some u => rw [g.1 t u (g.2.ne ht) hh] at ht; cases ht) (by show i < N; omega) (g.trans (Bg.new g.2 ht _)) upd_same
theorem ok_L_end (T : Tx w K mg A) : FnOk P w K mg base CX0 1 A.a_L_end A.d_L_end ["_law_ends_here", "_law_pick_here"] sp_end := by
  refine T.F_L_end.ok sc_L_end (fun vs H Q E h => ?_) (fun cdv A' outer s H vs Q E hr h => ?_)
  · obtain ⟨p, t, es, k, rfl, hp, ht, hk, q⟩ := h
    rfl
  obtain ⟨p, t, es, k, rfl, hp, ht, hk, q⟩ := h
  refine ⟨_, (pss_cons (ps_set (i := 2) sc_L_end.nd rfl (Or.inl rfl) (pe_ix ix_list (pv 0) (pe_ix ix_tup (pv 1) pe_int (fun _ _ => rfl)) (fun _ _ => rfl)))
    (pss_cons (ps_if (pt_truth (pe_ix ix_tup (pv 1) pe_int (fun _ _ => rfl)) (fun _ => rfl)) (pss_one (ps_ret (pe_op op_sub (pe_op op_add (pv 2) pe_int) (pe_op op_mul pe_int (pe_op op_mod (pv 2) pe_int))))) pss_nil)
    (pss_one (ps_ret (pv 2))))), ?_⟩
  have hat : atI (nV es) (k.1 : Int) = some (.int ((es.getD k.1 0 : Nat) : Int)) := atI_nat (nV_at hk)
  refine ⟨_, rfl, _, rfl, t, _, _, _, rfl, rfl, SqT.of ht, rfl, p, _, _, _, rfl, rfl, SqL.of hp, hat, ?_⟩
  unfold eV at q
  refine ⟨_, rfl, t, _, _, _, rfl, rfl, SqT.of ht, rfl, _, rfl, ?_⟩
  by_cases hb : k.2 = true
  · rw [if_pos hb] at q
    refine ite_t hb ⟨_, rfl, _, _, rfl, rfl, _, rfl, _, _, rfl, rfl, (by show (0 : Int) < 2; decide), _, _, rfl, rfl, .inl ⟨by decide, by decide⟩, _, _, rfl, rfl, ?_⟩
    dsimp only
    rw [x1_val]
    exact q
  · rw [if_neg hb] at q
    exact ite_f (by simpa using hb) ⟨_, rfl, q⟩
theorem ok_L_told (T : Tx w K mg A) (G_Bench_choice : FnOk P w K mg base CX0 4 A.a_Bench_choice A.d_Bench_choice ["self", "c", "a", "b"] (sp_B_choice A.c_Bench)) (G_Bench_box : FnOk P w K mg base CX0 2 A.a_Bench_box A.d_Bench_box ["self", "first"] (sp_B_box A.c_Bench)) (G_L_end : FnOk P w K mg base CX0 1 A.a_L_end A.d_L_end ["_law_ends_here", "_law_pick_here"] sp_end) (G_Bench_both : FnOk P w K mg base CX0 2 A.a_Bench_both A.d_Bench_both ["self", "a", "b"] (sp_B_both A.c_Bench)) (G_Bench_either : FnOk P w K mg base CX0 3 A.a_Bench_either A.d_Bench_either ["self", "a", "b"] (sp_B_either A.c_Bench)) (G_Bench_odd : FnOk P w K mg base CX0 4 A.a_Bench_odd A.d_Bench_odd ["self", "a", "b"] (sp_B_odd A.c_Bench)) : FnOk P w K mg base CX0 5 A.a_L_told A.d_L_told ["_law_bench", "_law_deed", "_law_ends_here"] (sp_told A.c_Bench) := by
  refine T.F_L_told.ok sc_L_told (fun vs H Q E h => ?_) (fun cdv A' outer s H vs Q E hr h => ?_)
  · obtain ⟨B, r, p, n, dl, fs, gs, DV, es, d, rfl, hB, hgl, hD, hp, hes, hk4, ha, hb, hc, q⟩ := h
    rfl
  obtain ⟨B, r, p, n, dl, fs, gs, DV, es, d, rfl, hB, hgl, hD, hp, hes, hk4, ha, hb, hc, q⟩ := h
  refine ⟨_, (pss_cons (ps_asg (pv 1) (pg_tup rfl (pgs_cons (pg_name (i := 3) sc_L_told.nd rfl (Or.inl rfl)) (pgs_cons (pg_name (i := 4) sc_L_told.nd rfl (Or.inl rfl)) (pgs_cons (pg_name (i := 5) sc_L_told.nd rfl (Or.inl rfl)) pgs_nil)))))
    (pss_cons (ps_if (pt_cmpR op_eq (pv 3) pe_int (nomark _)) (pss_one (ps_ret (pe_meth (pv 0) T.cl_Bench T.me_Bench_box G_Bench_box (hr.mono (by first | decide | omega)) T.B_Bench_box .nil pass0 (pa_cons (pv 4) pa_nil)))) pss_nil)
    (pss_cons (ps_asg (pe_comp [2] (fun _ _ h => h) rfl (pi_list (pv 5)) (fun _ _ _ _ => pts_nil) (fun _ _ _ _ => (pe_call G_L_end (hr.mono (by first | decide | omega)) rfl T.M_L_end T.F_L_end.kp T.B_L_end .nil pass0 (pa_cons (pv 1) (pa_cons (pv 0) pa_nil)))) rfl (show ∀ j ∈ ([2] : List Nat), j < 9 by decide) (show (["_law_pick_here", "_law_ends_here"] : List Str).Nodup by decide +kernel)) (pg_lst rfl (pgs_cons (pg_name (i := 6) sc_L_told.nd rfl (Or.inl rfl)) (pgs_cons (pg_name (i := 7) sc_L_told.nd rfl (Or.inl rfl)) (pgs_cons (pg_name (i := 8) sc_L_told.nd rfl (Or.inl rfl)) pgs_nil)))))
    (pss_cons (ps_if (pt_cmpR op_eq (pv 3) pe_int (nomark _)) (pss_one (ps_ret (pe_meth (pv 0) T.cl_Bench T.me_Bench_both G_Bench_both (hr.mono (by first | decide | omega)) T.B_Bench_both .nil pass0 (pa_cons (pv 6) (pa_cons (pv 7) pa_nil))))) pss_nil)
    (pss_cons (ps_if (pt_cmpR op_eq (pv 3) pe_int (nomark _)) (pss_one (ps_ret (pe_meth (pv 0) T.cl_Bench T.me_Bench_either G_Bench_either (hr.mono (by first | decide | omega)) T.B_Bench_either .nil pass0 (pa_cons (pv 6) (pa_cons (pv 7) pa_nil))))) pss_nil)
    (pss_cons (ps_if (pt_cmpR op_eq (pv 3) pe_int (nomark _)) (pss_one (ps_ret (pe_meth (pv 0) T.cl_Bench T.me_Bench_odd G_Bench_odd (hr.mono (by first | decide | omega)) T.B_Bench_odd .nil pass0 (pa_cons (pv 6) (pa_cons (pv 7) pa_nil))))) pss_nil)
    (pss_one (ps_ret (pe_meth (pv 0) T.cl_Bench T.me_Bench_choice G_Bench_choice (hr.mono (by first | decide | omega)) T.B_Bench_choice .nil pass0 (pa_cons (pv 8) (pa_cons (pv 6) (pa_cons (pv 7) pa_nil)))))))))))), ?_⟩
  obtain ⟨qq, hr', ts, hq, hps⟩ := hD
  refine ⟨_, rfl, r, _, rfl, SqT.of hr', rfl, _, _, rfl, _, _, rfl, _, _, rfl, rfl, ?_⟩
  show tSeq _ _ _ [some (.ref B.b), some (.ref r), some (.ref p), some (.int (d.k : Int)), some (.int (d.f : Int)), some (.ref qq), none, none, none] H
  refine ⟨_, rfl, rfl, _, rfl, ?_⟩
  by_cases h4 : d.k = 4
  · refine ite_t (decide_eq_true (by rw [h4]; rfl)) ⟨_, rfl, B.b, B.dx, _, rfl, hB.ob, bFs_no (by decide), _, rfl, B, n, dl, fs, gs, DV, _, rfl, hB, hgl, fun H' bd hB' => ?_⟩
    exact q _ _ _ H' bd hB' (.inl ⟨h4, rfl, rfl, rfl⟩)
  refine ite_f (decide_eq_false fun h => h4 (by injection h with h; omega)) ?_
  have eLt : ∀ k : Pk, k.1 < es.length → eV es k / 2 < 1 + n + gs.length := fun k hk => by
    have h1 := hes (es.getD k.1 0) (by rw [← getD_at hk]; exact List.getElem_mem hk)
    unfold eV
    split
    · rw [x1_div]; exact h1
    · exact h1
  refine ⟨_, rfl, qq, rfl, ⟨_, SqL.of hq⟩, comp_paired (fun k => .int ((eV es k : Nat) : Int)) (SqL.of hq) hps (by rw [Paired.length hps]; show 3 ≤ 100000; decide) (fun t k hR hkm N hN => ⟨_, rfl, _, rfl, p, t, es, k, rfl, hp, hR, ?_, hN⟩) fun px hpx => ?_⟩
  · simp only [List.mem_cons, List.not_mem_nil, or_false] at hkm
    rcases hkm with rfl | rfl | rfl <;> assumption
  have s1 := same_new hpx (.lst ([d.a, d.b, d.c].map fun k => V.int ((eV es k : Nat) : Int)))
  refine ⟨px, _, rfl, SqL.of upd_same, rfl, _, _, rfl, _, _, rfl, _, _, rfl, rfl, ?_⟩
  show tSeq _ _ _ [some (.ref B.b), some (.ref r), some (.ref p), some (.int (d.k : Int)), some (.int (d.f : Int)), some (.ref qq), some (.int ((eV es d.a : Nat) : Int)), some (.int ((eV es d.b : Nat) : Int)), some (.int ((eV es d.c : Nat) : Int))] (upd H px (.lst ([d.a, d.b, d.c].map fun k => V.int ((eV es k : Nat) : Int))))
  generalize upd H px (.lst ([d.a, d.b, d.c].map fun k => V.int ((eV es k : Nat) : Int))) = H1 at s1 ⊢
  have hB1 := hB.same s1
  have la := eLt d.a ha
  have lb := eLt d.b hb
  have lc := eLt d.c hc
  have fin : ∀ (e : Nat) gs' H' cc, cc ≤ 3 → Mdo (1 + n) cc gs gs' e (vK d.k (eV es d.a) (eV es d.b) (eV es d.c)) → Bd B H1 H' → BenOn A.c_Bench H' B n fs gs' DV dl → Q (.int e) H' := fun e gs' H' cc hcc md bd hB' => q e fs gs' H' ((Bd.of s1).trans bd) hB' (.inr ⟨h4, rfl, md.up hcc⟩)
  refine ⟨_, rfl, rfl, _, rfl, ?_⟩
  by_cases h0 : d.k = 0
  · rw [h0] at fin
    exact ite_t (decide_eq_true (by rw [h0]; rfl)) ⟨_, rfl, B.b, B.dx, _, rfl, hB1.ob, bFs_no (by decide), _, rfl, _, rfl, B, n, dl, fs, gs, DV, _, _, rfl, hB1, by omega, la, lb, fun e gs' H' md bd hB' => fin e gs' H' 1 (by decide) md bd hB'⟩
  refine ite_f (decide_eq_false fun h => h0 (by injection h with h; omega)) ⟨_, rfl, rfl, _, rfl, ?_⟩
  by_cases h1 : d.k = 1
  · rw [h1] at fin
    exact ite_t (decide_eq_true (by rw [h1]; rfl)) ⟨_, rfl, B.b, B.dx, _, rfl, hB1.ob, bFs_no (by decide), _, rfl, _, rfl, B, n, dl, fs, gs, DV, _, _, rfl, hB1, by omega, la, lb, fun e gs' H' md bd hB' => fin e gs' H' 1 (by decide) md bd hB'⟩
  refine ite_f (decide_eq_false fun h => h1 (by injection h with h; omega)) ⟨_, rfl, rfl, _, rfl, ?_⟩
  by_cases h2 : d.k = 2
  · rw [h2] at fin
    exact ite_t (decide_eq_true (by rw [h2]; rfl)) ⟨_, rfl, B.b, B.dx, _, rfl, hB1.ob, bFs_no (by decide), _, rfl, _, rfl, B, n, dl, fs, gs, DV, _, _, rfl, hB1, by omega, la, lb, fun e gs' H' md bd hB' => fin e gs' H' 3 (by decide) md bd hB'⟩
  refine ite_f (decide_eq_false fun h => h2 (by injection h with h; omega)) ?_
  have h3 : d.k = 3 := by omega
  rw [h3] at fin
  exact ⟨_, rfl, B.b, B.dx, _, rfl, hB1.ob, bFs_no (by decide), _, rfl, _, rfl, _, rfl, B, n, dl, fs, gs, DV, _, _, _, rfl, hB1, by omega, lc, la, lb, fun e gs' H' md bd hB' => fin e gs' H' 3 (by decide) md bd hB'⟩
theorem ok_L_worth (T : Tx w K mg A) : FnOk P w K mg base CX0 1 A.a_L_worth A.d_L_worth ["_law_worths", "_law_pick_here", "_law_ones"] sp_worth := by
  refine T.F_L_worth.ok sc_L_worth (fun vs H Q E h => ?_) (fun cdv A' outer s H vs Q E hr h => ?_)
  · obtain ⟨p, t, W, k, m, rfl, hp, ht, hk, lo, q⟩ := h
    rfl
  obtain ⟨p, t, W, k, m, rfl, hp, ht, hk, lo, q⟩ := h
  refine ⟨_, (pss_cons (ps_if (pt_truth (pe_ix ix_tup (pv 1) pe_int (fun _ _ => rfl)) (fun _ => rfl)) (pss_one (ps_ret (pe_op op_sub (pv 2) (pe_ix ix_list (pv 0) (pe_ix ix_tup (pv 1) pe_int (fun _ _ => rfl)) (fun _ _ => rfl))))) pss_nil)
    (pss_one (ps_ret (pe_ix ix_list (pv 0) (pe_ix ix_tup (pv 1) pe_int (fun _ _ => rfl)) (fun _ _ => rfl))))), ?_⟩
  have hat : atI (nV W) (k.1 : Int) = some (.int ((W.getD k.1 0 : Nat) : Int)) := atI_nat (nV_at hk)
  have hv := getD_low lo k.1
  unfold wV at q
  refine ⟨_, rfl, t, _, _, _, rfl, rfl, SqT.of ht, rfl, _, rfl, ?_⟩
  by_cases hb : k.2 = true
  · rw [if_pos hb] at q
    refine ite_t hb ⟨_, rfl, _, rfl, _, rfl, t, _, _, _, rfl, rfl, SqT.of ht, rfl, p, _, _, _, rfl, rfl, SqL.of hp, hat, _, _, rfl, rfl, ?_⟩
    dsimp only
    rw [show ((2 ^ m - 1 : Nat) : Int) - ((W.getD k.1 0 : Nat) : Int) = ((2 ^ m - 1 - W.getD k.1 0 : Nat) : Int) by omega]
    exact q
  · rw [if_neg hb] at q
    exact ite_f (by simpa using hb) ⟨_, rfl, _, rfl, t, _, _, _, rfl, rfl, SqT.of ht, rfl, p, _, _, _, rfl, rfl, SqL.of hp, hat, q⟩
theorem ok_L_due (T : Tx w K mg A) (G_L_worth : FnOk P w K mg base CX0 1 A.a_L_worth A.d_L_worth ["_law_worths", "_law_pick_here", "_law_ones"] sp_worth) : FnOk P w K mg base CX0 2 A.a_L_due A.d_L_due ["_law_deeds_here", "_law_stand", "_law_row", "_law_ones"] sp_due := by
  refine T.F_L_due.ok sc_L_due (fun vs H Q E h => ?_) (fun cdv A' outer s H vs Q E hr h => ?_)
  · obtain ⟨pd, ps, pr, rs, ds, n, m, st, row, rfl, hD, hdl, ok, hs, hr', hrn, hn, lr, ls, hcnt, q⟩ := h
    rfl
  obtain ⟨pd, ps, pr, rs, ds, n, m, st, row, rfl, hD, hdl, ok, hs, hr', hrn, hn, lr, ls, hcnt, q⟩ := h
  refine ⟨_, (pss_cons (ps_set (i := 4) sc_L_due.nd rfl (Or.inr rfl) (pe_op op_cat (pe_lst (pa_cons pe_int (pa_cons (pv 3) pa_nil))) (pv 2)))
    (pss_cons (ps_set (i := 5) sc_L_due.nd rfl (Or.inl rfl) pe_int)
    (pss_cons (ps_for PassesOwn.never rfl (pi_list (pv 0)) (pg_tup rfl (pgs_cons (pg_name (i := 6) sc_L_due.nd rfl (Or.inl rfl)) (pgs_cons (pg_name (i := 7) sc_L_due.nd rfl (Or.inl rfl)) (pgs_cons (pg_name (i := 8) sc_L_due.nd rfl (Or.inl rfl)) pgs_nil))))
        (pss_one (ps_if (pt_cmpR op_eq (pv 6) pe_int (nomark _)) (pss_cons (ps_expr (pe_bm PySem.F.plainAttrs_list PySem.F.slot_list_append PySem.F.type_list_append mt_append (pv 4) (pa_cons (pe_ix ix_list (pv 1) (pv 5) (fun _ _ => rfl)) pa_nil)))
    (pss_one (ps_set (i := 5) sc_L_due.nd rfl (Or.inl rfl) (pe_op op_add (pv 5) pe_int)))) (pss_cons (ps_asg (pe_comp [4, 3] (fun _ _ h => h) rfl (pi_list (pv 8)) (fun _ _ _ _ => pts_nil) (fun _ _ _ _ => (pe_call G_L_worth (hr.mono (by first | decide | omega)) rfl T.M_L_worth T.F_L_worth.kp T.B_L_worth .nil pass0 (pa_cons (pv 1) (pa_cons (pv 0) (pa_cons (pv 2) pa_nil))))) rfl (show ∀ j ∈ ([4, 3] : List Nat), j < 12 by decide) (show (["_law_pick_here", "_law_worths", "_law_ones"] : List Str).Nodup by decide +kernel)) (pg_lst rfl (pgs_cons (pg_name (i := 9) sc_L_due.nd rfl (Or.inl rfl)) (pgs_cons (pg_name (i := 10) sc_L_due.nd rfl (Or.inl rfl)) (pgs_cons (pg_name (i := 11) sc_L_due.nd rfl (Or.inl rfl)) pgs_nil)))))
    (pss_one (ps_expr (pe_bm PySem.F.plainAttrs_list PySem.F.slot_list_append PySem.F.type_list_append mt_append (pv 4) (pa_cons (pe_ix ix_list (pe_lst (pa_cons (pe_op op_and (pv 9) (pv 10)) (pa_cons (pe_op op_or (pv 9) (pv 10)) (pa_cons (pe_op op_xor (pv 9) (pv 10)) (pa_cons (pe_op op_or (pe_op op_and (pv 11) (pv 9)) (pe_op op_and (pe_op op_sub (pv 3) (pv 11)) (pv 10))) pa_nil))))) (pv 6) (fun _ _ => rfl)) pa_nil))))))))
    (pss_one (ps_ret (pv 4)))))), ?_⟩
  have hrl := Paired.length hD.2
  refine ⟨_, rfl, (by show 2 ≤ sizeLine; decide), fun p1 hp1 => ?_⟩
  have s1 := same_new hp1 (.lst [.int 0, .int ((2 ^ m - 1 : Nat) : Int)])
  have f1 := upd_same (H := H) (a := p1) (o := .lst [.int 0, .int ((2 ^ m - 1 : Nat) : Int)])
  generalize upd H p1 (.lst [.int 0, .int ((2 ^ m - 1 : Nat) : Int)]) = H1 at s1 f1 ⊢
  refine ⟨_, rfl, p1, pr, _, _, rfl, rfl, f1, s1 _ _ hr', small (by rw [nV_len]; show 2 + _ ≤ _; omega), fun p hp => ?_⟩
  have e0 : [V.int 0, V.int ((2 ^ m - 1 : Nat) : Int)] ++ nV row = nV (dueL m row st (ds.take 0)).1 := by
    rw [List.take_zero]
    unfold dueL nV
    rfl
  rw [e0]
  have hpH := s1.free hp
  have s2 := s1.trans (same_new hp (.lst (nV (dueL m row st (ds.take 0)).1)))
  have f2 := upd_same (H := H1) (a := p) (o := .lst (nV (dueL m row st (ds.take 0)).1))
  show tSeq _ _ _ _ (upd H1 p (.lst (nV (dueL m row st (ds.take 0)).1)))
  generalize upd H1 p (.lst (nV (dueL m row st (ds.take 0)).1)) = H2 at s2 f2 ⊢
  refine ⟨_, rfl, pd, rfl, ⟨_, SqL.of (s2 _ _ hD.1)⟩, for_list (xs := rs.map V.ref) (fun i σ H' => ∃ x6 x7 x8 x9 x10 x11 : Option V, σ = [some (.ref pd), some (.ref ps), some (.ref pr), some (.int ((2 ^ m - 1 : Nat) : Int)), some (.ref p), some (.int (((dueL m row st (ds.take i)).2 : Nat) : Int)), x6, x7, x8, x9, x10, x11] ∧ Same H H' ∧ H' p = some (.lst (nV (dueL m row st (ds.take i)).1))) ⟨_, _, _, _, _, _, rfl, s2, f2⟩ ?_ ?_ ?_⟩
  · rintro i σ H' _ ⟨_, _, _, _, _, _, _, s3, _⟩
    exact SqL.of (s3 _ _ hD.1)
  · rintro i x σ H' hx ⟨x6, x7, x8, x9, x10, x11, rfl, s3, f3⟩
    rw [List.getElem?_map] at hx
    obtain ⟨r, hri, rfl⟩ := Option.map_eq_some_iff.mp hx
    obtain ⟨d, hdi, hR⟩ := Paired.at hD.2 hri
    obtain ⟨qq, hr3, ts, hq, hps⟩ := DdAt.same hR s3
    have hil := (List.getElem?_eq_some_iff.mp hdi).1
    obtain ⟨k4, _, ka, kb, kc⟩ := ok i d hdi
    have hst : dueL m row st (ds.take (i + 1)) = dueS m st (dueL m row st (ds.take i)) d := by
      rw [take_get hdi]
      unfold dueL
      rw [List.foldl_append]
      rfl
    have hlen : (dueL m row st (ds.take i)).1.length = 2 + n + i := by rw [due_len, List.length_take, hrn]; omega
    have low : Low m (dueL m row st (ds.take i)).1 := due_low lr ls _
    have hcb : (dueL m row st (ds.take (i + 1))).2 ≤ st.length := Nat.le_trans (due_cnt _ _) hcnt
    rw [hst]
    rw [hst] at hcb
    generalize dueL m row st (ds.take i) = D at f3 hlen low hcb ⊢
    obtain ⟨W, nb⟩ := D
    refine ⟨r, _, rfl, SqT.of hr3, rfl, _, _, rfl, _, _, rfl, _, _, rfl, rfl, ?_⟩
    refine ⟨_, rfl, rfl, _, rfl, ?_⟩
    by_cases h4 : d.k = 4
    · have e4 : dueS m st (W, nb) d = (W ++ [st.getD nb 0], nb + 1) := by unfold dueS; rw [if_pos h4]
      rw [e4] at hcb ⊢
      refine ite_t (decide_eq_true (by rw [h4]; rfl)) ⟨_, rfl, .inl ⟨rfl, _, SqL.of f3⟩, _, rfl, _, rfl, ps, _, _, _, rfl, rfl, SqL.of (s3 _ _ hs), (show atI (nV st) ((nb : Nat) : Int) = some (.int ((st.getD nb 0 : Nat) : Int)) from atI_nat (nV_at hcb)), p, _, _, rfl, rfl, f3, (by rw [nV_len, hlen]; exact smallL (by omega)), ?_⟩
      refine ⟨_, rfl, _, _, rfl, rfl, ?_⟩
      refine ⟨_, _, _, _, _, _, rfl, sameUpd s3 hpH _, ?_⟩
      rw [upd_same, nV_snoc]
    refine ite_f (decide_eq_false fun h => h4 (by injection h with h; omega)) ?_
    refine ⟨_, rfl, qq, rfl, ⟨_, SqL.of hq⟩, comp_paired (fun k => .int ((wV m W k : Nat) : Int)) (SqL.of hq) hps (by rw [Paired.length hps]; show 3 ≤ 100000; decide) (fun t k hR hkm N hN => ⟨_, rfl, _, rfl, _, rfl, p, t, W, k, m, rfl, f3, hR, ?_, low, hN⟩) fun px hpx => ?_⟩
    · rw [hlen]
      simp only [List.mem_cons, List.not_mem_nil, or_false] at hkm
      rcases hkm with rfl | rfl | rfl <;> assumption
    have t1 := same_new hpx (.lst ([d.a, d.b, d.c].map fun k => V.int ((wV m W k : Nat) : Int)))
    refine ⟨px, _, rfl, SqL.of upd_same, rfl, _, _, rfl, _, _, rfl, _, _, rfl, rfl, ?_⟩
    show tSeq _ _ _ [some (.ref pd), some (.ref ps), some (.ref pr), some (.int ((2 ^ m - 1 : Nat) : Int)), some (.ref p), some (.int ((nb : Nat) : Int)), some (.int (d.k : Int)), some (.int (d.f : Int)), some (.ref qq), some (.int ((wV m W d.a : Nat) : Int)), some (.int ((wV m W d.b : Nat) : Int)), some (.int ((wV m W d.c : Nat) : Int))] (upd H' px (.lst ([d.a, d.b, d.c].map fun k => V.int ((wV m W k : Nat) : Int))))
    generalize upd H' px (.lst ([d.a, d.b, d.c].map fun k => V.int ((wV m W k : Nat) : Int))) = H3 at t1 ⊢
    have f3 := t1 _ _ f3
    have s4 := s3.trans t1
    have wc := wV_low low d.c
    have e5 : dueS m st (W, nb) d = (W ++ [opV m d.k (wV m W d.a) (wV m W d.b) (wV m W d.c)], nb) := by unfold dueS; rw [if_neg h4]
    rw [e5]
    have hat := op_at (k := d.k) (a := wV m W d.a) (b := wV m W d.b) wc (by omega)
    generalize opV m d.k (wV m W d.a) (wV m W d.b) (wV m W d.c) = v at hat ⊢
    refine ⟨_, rfl, .inl ⟨rfl, _, SqL.of f3⟩, _, rfl, _, rfl, _, _, rfl, rfl, _, rfl, _, rfl, _, _, rfl, rfl, _, rfl, _, rfl, _, _, rfl, rfl, _, rfl, _, rfl, _, _, rfl, rfl, _, rfl, _, rfl, _, _, rfl, rfl, _, rfl, _, _, rfl, rfl, _, _, rfl, rfl, (by show 4 ≤ sizeLine; decide), fun z hz => ?_⟩
    have t2 := fun o => same_new hz o
    refine ⟨_, rfl, z, _, _, _, rfl, rfl, SqL.of upd_same, hat, p, _, _, rfl, rfl, t2 _ _ _ f3, (by rw [nV_len, hlen]; exact smallL (by omega)), ?_⟩
    refine ⟨_, _, _, _, _, _, rfl, sameUpd (s4.trans (t2 _)) hpH _, ?_⟩
    rw [upd_same, nV_snoc]
  · rintro σ H' ⟨x6, x7, x8, x9, x10, x11, rfl, s3, f3⟩
    rw [List.length_map, hrl, List.take_length] at f3
    exact ⟨_, rfl, q p H' hpH s3 f3⟩
theorem ok_L_deeds (T : Tx w K mg A) (G_L_take : FnOk P w K mg base CX0 1 A.a_L_take A.d_L_take ["_law_bag_here", "_law_many"] sp_L_take) (G_L_pick : FnOk P w K mg base CX0 2 A.a_L_pick A.d_L_pick ["_law_bag_here", "_law_many"] sp_pick) : FnOk P w K mg base CX0 3 A.a_L_deeds A.d_L_deeds ["_law_bag_here", "_law_ins", "_law_many"] sp_deeds := by
  refine T.F_L_deeds.ok sc_L_deeds (fun vs H Q E h => ?_) (fun cdv A' outer s H vs Q E hr h => ?_)
  · obtain ⟨l, n, N, rfl, hb, hn, hN, q⟩ := h
    rfl
  obtain ⟨l, n, N, rfl, hb, hn, hN, q⟩ := h
  refine ⟨_, (pss_cons (ps_set (i := 3) sc_L_deeds.nd rfl (Or.inl rfl) (pe_lst pa_nil))
    (pss_cons (ps_set (i := 4) sc_L_deeds.nd rfl (Or.inl rfl) pe_int)
    (pss_cons (ps_for PassesOwn.never rfl (pi_range1 rfl T.range (pa_cons (pv 2) pa_nil)) (pg_name (i := 5) sc_L_deeds.nd rfl (Or.inr rfl))
        (pss_cons (ps_set (i := 6) sc_L_deeds.nd rfl (Or.inl rfl) (pe_op op_mod (pe_call G_L_take (hr.mono (by first | decide | omega)) rfl T.M_L_take T.F_L_take.kp T.B_L_take .nil pass0 (pa_cons (pv 0) (pa_cons pe_int pa_nil))) pe_int))
    (pss_cons (ps_if (PW.pt (pw_and (pt_cmpR op_eq (pv 6) pe_int (nomark _)) (pw_and1 (pt_cmpR op_eq (pv 4) pe_int (nomark _))))) (pss_one (ps_set (i := 6) sc_L_deeds.nd rfl (Or.inl rfl) pe_int)) pss_nil)
    (pss_cons (ps_set (i := 4) sc_L_deeds.nd rfl (Or.inl rfl) (pe_op op_add (pv 4) (pe_callTy call_int1 rfl T.int PyProof.Rows.boot_int (pa_cons (pe_cmpR op_eq (pv 6) pe_int (nomark _)) pa_nil))))
    (pss_cons (ps_comp [0, 1, 5] sc_L_deeds.nd (i := 7) rfl (Or.inl rfl) (fun _ _ h => h) rfl (pi_range1 rfl T.range (pa_cons pe_int pa_nil)) (fun _ _ _ _ => pts_nil) (fun _ _ _ _ => (pe_call G_L_pick (hr.mono (by first | decide | omega)) rfl T.M_L_pick T.F_L_pick.kp T.B_L_pick .nil pass0 (pa_cons (pv 1) (pa_cons (pe_op op_add (pe_op op_add pe_int (pv 2)) (pv 3)) pa_nil)))) rfl (show ∀ j ∈ ([0, 1, 5] : List Nat), j < 8 by decide) (show (["_law_j", "_law_bag_here", "_law_ins", "_law_k"] : List Str).Nodup by decide +kernel) (by with_unfolding_all rfl))
    (pss_one (ps_expr (pe_bm PySem.F.plainAttrs_list PySem.F.slot_list_append PySem.F.type_list_append mt_append (pv 3) (pa_cons (pe_tup (pa_cons (pv 6) (pa_cons (pe_call G_L_take (hr.mono (by first | decide | omega)) rfl T.M_L_take T.F_L_take.kp T.B_L_take .nil pass0 (pa_cons (pv 0) (pa_cons pe_int pa_nil))) (pa_cons (pv 7) pa_nil)))) pa_nil)))))))))
    (pss_one (ps_ret (pv 3)))))), ?_⟩
  refine ⟨(by show 0 ≤ sizeLine; decide), fun p hp => ?_⟩
  have s1 := same_new hp (.lst [])
  have b1 := (hb.same s1).2
  have g1 : Bg l H (upd H p (.lst [])) := Bg.new hb hp (.lst [])
  have f1 := upd_same (H := H) (a := p) (o := .lst [])
  have npl : p ≠ l := hb.ne hp
  show tSeq _ _ _ _ (upd H p (.lst []))
  generalize upd H p (.lst []) = H1 at s1 b1 g1 f1 ⊢
  refine ⟨_, rfl, _, rfl, by omega, by omega, for_range (lo := 0) (fun i σ H' => ∃ (x5 x6 x7 : Option V) (rs : List Addr) (ds : List Dd), σ = [some (.ref l), some (.int (n : Int)), some (.int (N : Int)), some (.ref p), some (.int (((ds.filter fun d => d.k == 4).length : Nat) : Int)), x5, x6, x7] ∧ Bg l H H' ∧ H' p = some (.lst (rs.map V.ref)) ∧ Paired (DX p H') rs ds ∧ ds.length = i ∧ DOk n ds ∧ (ds.filter fun d => d.k == 4).length ≤ 5) ⟨_, _, _, [], [], rfl, g1, f1, .nil, rfl, (fun i d h => by cases h), by decide⟩ ?_ ?_⟩
  · rintro i σ H' hi ⟨x5, x6, x7, rs, ds, rfl, g, fp, hP, hl, ok, h5⟩
    have hi' : i < N := by omega
    generalize hnb : (ds.filter fun d => d.k == 4).length = nb at h5 ⊢
    refine ⟨_, rfl, l, 6, rfl, g.2, by decide, by decide, fun d6 H2 d0 d1 g2 => ⟨_, _, rfl, rfl, (by show (0 : Int) < 5; decide), ?_⟩⟩
    obtain ⟨k0, hk0⟩ : ∃ k : Nat, d6 % 5 = (k : Int) := ⟨(d6 % 5).toNat, by omega⟩
    have hk4 : k0 ≤ 4 := by omega
    dsimp only
    rw [hk0]
    have hP := pairedMono (fun r d h => DX.bg h g.2 g2) hP
    have fp := g2.1 _ _ npl fp
    have g := g.trans g2
    clear g2 d0 d1 hk0
    show tSeq _ _ _ [some (.ref l), some (.int (n : Int)), some (.int (N : Int)), some (.ref p), some (.int ((nb : Nat) : Int)), some (.int (0 + (i : Int))), some (.int (k0 : Int)), x7] H2
    refine ⟨_, rfl, rfl, _, rfl, ?_⟩
    by_cases h4 : k0 = 4
    · refine ite_t (decide_eq_true (by rw [h4]; rfl)) ⟨_, rfl, rfl, _, rfl, ?_⟩
      by_cases hb5 : nb = 5
      · refine ite_t (decide_eq_true (by rw [hb5]; rfl)) ?_
        have hK : (3 : Nat) ≤ 4 := by decide
        have hK5 : (3 : Nat) = 4 → nb < 5 := fun h => absurd h (by decide)
        show tSeq _ _ _ [some (.ref l), some (.int (n : Int)), some (.int (N : Int)), some (.ref p), some (.int ((nb : Nat) : Int)), some (.int (0 + (i : Int))), some (.int ((3 : Nat) : Int)), x7] H2
        refine ⟨_, rfl, _, rfl, rfl, .inr ⟨_, rfl, _, _, rfl, rfl, ?_⟩⟩
        dsimp only
        rw [cnt_eq nb 3]
        show tSeq _ _ _ [some (.ref l), some (.int (n : Int)), some (.int (N : Int)), some (.ref p), some (.int ((nb + cnt4 3 : Nat) : Int)), some (.int (0 + (i : Int))), some (.int ((3 : Nat) : Int)), x7] H2
        refine ⟨_, rfl, by decide, by decide, comp_range (lo := 0) (fun j ys H' => ∃ (ts : List Addr) (ps : List Pk), ys = ts.map V.ref ∧ Bg l H2 H' ∧ Paired (PkAt H') ts ps ∧ ps.length = j ∧ ∀ x ∈ ps, x.1 < 2 + n + i) ⟨[], [], rfl, Bg.refl g.2, .nil, rfl, fun _ h => nomatch h⟩ ?_ ?_ ?_⟩
        · rintro j ys Hq hj ⟨ts, ps, rfl, _, hps, hpl, _⟩
          rw [List.length_map, Paired.length hps]
          have hj3 : j < 3 := hj
          exact smallL (by omega)
        · rintro j ys Hq hj ⟨ts, ps, rfl, gq, hps, hpl, hpx⟩
          unfold tYes
          refine iteT ⟨_, rfl, _, rfl, _, _, rfl, rfl, _, rfl, _, _, rfl, rfl, l, 2 + n + i, ?_, gq.2, by omega, by omega, fun t k Hr ht hlt gr hR => ?_⟩
          · show [V.ref l, V.int (2 + (n : Int) + (0 + (i : Int)))] = _
            rw [show (2 + (n : Int) + (0 + (i : Int))) = ((2 + n + i : Nat) : Int) by omega]
          · refine ⟨ts ++ [t], ps ++ [k], by rw [List.map_append]; rfl, gq.trans gr, pairedSn (pairedMono (fun _ _ z => Bg.keepT gq.2 gr _ _ z) hps) (.cons hR .nil), by rw [List.length_append, hpl]; rfl, fun x hx => ?_⟩
            rcases List.mem_append.mp hx with h | h
            · exact hpx x h
            · rw [List.mem_singleton.mp h]
              exact hlt
        rintro ys H3 ⟨ts, ps, rfl, g3, hps, hpl, hpx⟩ pq hpq
        have hpl : ps.length = 3 := hpl
        obtain ⟨pa, pb, pc, rfl⟩ : ∃ a b c, ps = [a, b, c] := by
          match ps, hpl with
          | [a, b, c], _ => exact ⟨a, b, c, rfl⟩
        have npq : pq ≠ p := (ne_of_none (g3.1 _ _ npl fp) hpq).symm
        have s4 := same_new hpq (.lst (ts.map V.ref))
        have fq := upd_same (H := H3) (a := pq) (o := .lst (ts.map V.ref))
        have g4 := g3.trans (Bg.new g3.2 hpq (.lst (ts.map V.ref)))
        generalize upd H3 pq (.lst (ts.map V.ref)) = H4 at s4 fq g4 ⊢
        have hps := pairedMono (fun r q (z : PkAt H3 r q) => (s4 _ _ z : PkAt H4 r q)) hps
        have hP := pairedMono (fun r d h => DX.bg h g.2 g4) hP
        have fp := g4.1 _ _ npl fp
        have g := g.trans g4
        refine ⟨_, rfl, .inl ⟨rfl, _, SqL.of fp⟩, _, rfl, _, rfl, l, 2, rfl, g4.2, by decide, by decide, fun ff H5 f0 f2 g5 => ?_⟩
        obtain ⟨fn, rfl⟩ := Int.eq_ofNat_of_zero_le f0
        have hps := pairedMono (fun r q (z : PkAt H4 r q) => (Bg.keepT g.2 g5 _ _ z : PkAt H5 r q)) hps
        have fq := g5.1 _ _ (Bag.neR g.2 fq) fq
        have hP := pairedMono (fun r d h => DX.bg h g.2 g5) hP
        have fp := g5.1 _ _ npl fp
        have g := g.trans g5
        refine ⟨_, rfl, (by show 3 ≤ sizeLine; decide), fun r hr' => ?_⟩
        have s6 := same_new hr' (.tup [.int ((3 : Nat) : Int), .int (fn : Int), .ref pq])
        have fr := upd_same (H := H5) (a := r) (o := .tup [.int ((3 : Nat) : Int), .int (fn : Int), .ref pq])
        have g6 := g.trans (Bg.new g.2 hr' (.tup [.int ((3 : Nat) : Int), .int (fn : Int), .ref pq]))
        generalize upd H5 r (.tup [.int ((3 : Nat) : Int), .int (fn : Int), .ref pq]) = H6 at s6 fr g6 ⊢
        have fp := s6 _ _ fp
        have hrl := Paired.length hP
        refine ⟨p, _, _, rfl, rfl, fp, (by rw [List.length_map]; exact smallL (by omega)), ?_⟩
        have hd : DX p H6 r ⟨3, fn, pa, pb, pc⟩ := ⟨pq, npq, fr, ts, s6 _ _ fq, pairedMono (fun _ _ z => s6 _ _ z) hps⟩
        have hcn : ((ds ++ [(⟨3, fn, pa, pb, pc⟩ : Dd)]).filter fun d => d.k == 4).length = nb + cnt4 3 := by rw [List.filter_append, List.length_append, hnb, cnt_one]
        refine ⟨_, _, _, rs ++ [r], ds ++ [⟨3, fn, pa, pb, pc⟩], by rw [hcn]; rfl, ⟨fun c o nc e => by rw [upd_ne (ne_of_none e hp)]; exact g6.1 c o nc e, g6.2.set npl _⟩, by rw [upd_same, List.map_append]; rfl, pairedSn (pairedMono (fun r d h => DX.put (DX.same h s6) fp) hP) (.cons (DX.put hd fp) .nil), by rw [List.length_append, hl]; rfl, DOk.snoc ok hl hK (by show fn ≤ 1; omega) (hpx pa (by simp)) (hpx pb (by simp)) (hpx pc (by simp)), ?_⟩
        rw [hcn]
        unfold cnt4
        by_cases hz : 3 = 4
        · rw [if_pos hz]
          have := hK5 hz
          omega
        · rw [if_neg hz]
          exact h5
      · refine ite_f (decide_eq_false fun h => hb5 (by injection h with h; omega)) ?_
        have hK : k0 ≤ 4 := hk4
        have hK5 : k0 = 4 → nb < 5 := fun _ => by omega
        refine ⟨_, rfl, _, rfl, rfl, .inr ⟨_, rfl, _, _, rfl, rfl, ?_⟩⟩
        dsimp only
        rw [cnt_eq nb k0]
        show tSeq _ _ _ [some (.ref l), some (.int (n : Int)), some (.int (N : Int)), some (.ref p), some (.int ((nb + cnt4 k0 : Nat) : Int)), some (.int (0 + (i : Int))), some (.int ((k0 : Nat) : Int)), x7] H2
        refine ⟨_, rfl, by decide, by decide, comp_range (lo := 0) (fun j ys H' => ∃ (ts : List Addr) (ps : List Pk), ys = ts.map V.ref ∧ Bg l H2 H' ∧ Paired (PkAt H') ts ps ∧ ps.length = j ∧ ∀ x ∈ ps, x.1 < 2 + n + i) ⟨[], [], rfl, Bg.refl g.2, .nil, rfl, fun _ h => nomatch h⟩ ?_ ?_ ?_⟩
        · rintro j ys Hq hj ⟨ts, ps, rfl, _, hps, hpl, _⟩
          rw [List.length_map, Paired.length hps]
          have hj3 : j < 3 := hj
          exact smallL (by omega)
        · rintro j ys Hq hj ⟨ts, ps, rfl, gq, hps, hpl, hpx⟩
          unfold tYes
          refine iteT ⟨_, rfl, _, rfl, _, _, rfl, rfl, _, rfl, _, _, rfl, rfl, l, 2 + n + i, ?_, gq.2, by omega, by omega, fun t k Hr ht hlt gr hR => ?_⟩
          · show [V.ref l, V.int (2 + (n : Int) + (0 + (i : Int)))] = _
            rw [show (2 + (n : Int) + (0 + (i : Int))) = ((2 + n + i : Nat) : Int) by omega]
          · refine ⟨ts ++ [t], ps ++ [k], by rw [List.map_append]; rfl, gq.trans gr, pairedSn (pairedMono (fun _ _ z => Bg.keepT gq.2 gr _ _ z) hps) (.cons hR .nil), by rw [List.length_append, hpl]; rfl, fun x hx => ?_⟩
            rcases List.mem_append.mp hx with h | h
            · exact hpx x h
            · rw [List.mem_singleton.mp h]
              exact hlt
        rintro ys H3 ⟨ts, ps, rfl, g3, hps, hpl, hpx⟩ pq hpq
        have hpl : ps.length = 3 := hpl
        obtain ⟨pa, pb, pc, rfl⟩ : ∃ a b c, ps = [a, b, c] := by
          match ps, hpl with
          | [a, b, c], _ => exact ⟨a, b, c, rfl⟩
        have npq : pq ≠ p := (ne_of_none (g3.1 _ _ npl fp) hpq).symm
        have s4 := same_new hpq (.lst (ts.map V.ref))
        have fq := upd_same (H := H3) (a := pq) (o := .lst (ts.map V.ref))
        have g4 := g3.trans (Bg.new g3.2 hpq (.lst (ts.map V.ref)))
        generalize upd H3 pq (.lst (ts.map V.ref)) = H4 at s4 fq g4 ⊢
        have hps := pairedMono (fun r q (z : PkAt H3 r q) => (s4 _ _ z : PkAt H4 r q)) hps
        have hP := pairedMono (fun r d h => DX.bg h g.2 g4) hP
        have fp := g4.1 _ _ npl fp
        have g := g.trans g4
        refine ⟨_, rfl, .inl ⟨rfl, _, SqL.of fp⟩, _, rfl, _, rfl, l, 2, rfl, g4.2, by decide, by decide, fun ff H5 f0 f2 g5 => ?_⟩
        obtain ⟨fn, rfl⟩ := Int.eq_ofNat_of_zero_le f0
        have hps := pairedMono (fun r q (z : PkAt H4 r q) => (Bg.keepT g.2 g5 _ _ z : PkAt H5 r q)) hps
        have fq := g5.1 _ _ (Bag.neR g.2 fq) fq
        have hP := pairedMono (fun r d h => DX.bg h g.2 g5) hP
        have fp := g5.1 _ _ npl fp
        have g := g.trans g5
        refine ⟨_, rfl, (by show 3 ≤ sizeLine; decide), fun r hr' => ?_⟩
        have s6 := same_new hr' (.tup [.int ((k0 : Nat) : Int), .int (fn : Int), .ref pq])
        have fr := upd_same (H := H5) (a := r) (o := .tup [.int ((k0 : Nat) : Int), .int (fn : Int), .ref pq])
        have g6 := g.trans (Bg.new g.2 hr' (.tup [.int ((k0 : Nat) : Int), .int (fn : Int), .ref pq]))
        generalize upd H5 r (.tup [.int ((k0 : Nat) : Int), .int (fn : Int), .ref pq]) = H6 at s6 fr g6 ⊢
        have fp := s6 _ _ fp
        have hrl := Paired.length hP
        refine ⟨p, _, _, rfl, rfl, fp, (by rw [List.length_map]; exact smallL (by omega)), ?_⟩
        have hd : DX p H6 r ⟨k0, fn, pa, pb, pc⟩ := ⟨pq, npq, fr, ts, s6 _ _ fq, pairedMono (fun _ _ z => s6 _ _ z) hps⟩
        have hcn : ((ds ++ [(⟨k0, fn, pa, pb, pc⟩ : Dd)]).filter fun d => d.k == 4).length = nb + cnt4 k0 := by rw [List.filter_append, List.length_append, hnb, cnt_one]
        refine ⟨_, _, _, rs ++ [r], ds ++ [⟨k0, fn, pa, pb, pc⟩], by rw [hcn]; rfl, ⟨fun c o nc e => by rw [upd_ne (ne_of_none e hp)]; exact g6.1 c o nc e, g6.2.set npl _⟩, by rw [upd_same, List.map_append]; rfl, pairedSn (pairedMono (fun r d h => DX.put (DX.same h s6) fp) hP) (.cons (DX.put hd fp) .nil), by rw [List.length_append, hl]; rfl, DOk.snoc ok hl hK (by show fn ≤ 1; omega) (hpx pa (by simp)) (hpx pb (by simp)) (hpx pc (by simp)), ?_⟩
        rw [hcn]
        unfold cnt4
        by_cases hz : k0 = 4
        · rw [if_pos hz]
          have := hK5 hz
          omega
        · rw [if_neg hz]
          exact h5
    · refine ite_f (decide_eq_false fun h => h4 (by injection h with h; omega)) (iteF ?_)
      have hK : k0 ≤ 4 := hk4
      have hK5 : k0 = 4 → nb < 5 := fun h => absurd h h4
      refine ⟨_, rfl, _, rfl, rfl, .inr ⟨_, rfl, _, _, rfl, rfl, ?_⟩⟩
      dsimp only
      rw [cnt_eq nb k0]
      show tSeq _ _ _ [some (.ref l), some (.int (n : Int)), some (.int (N : Int)), some (.ref p), some (.int ((nb + cnt4 k0 : Nat) : Int)), some (.int (0 + (i : Int))), some (.int ((k0 : Nat) : Int)), x7] H2
      refine ⟨_, rfl, by decide, by decide, comp_range (lo := 0) (fun j ys H' => ∃ (ts : List Addr) (ps : List Pk), ys = ts.map V.ref ∧ Bg l H2 H' ∧ Paired (PkAt H') ts ps ∧ ps.length = j ∧ ∀ x ∈ ps, x.1 < 2 + n + i) ⟨[], [], rfl, Bg.refl g.2, .nil, rfl, fun _ h => nomatch h⟩ ?_ ?_ ?_⟩
      · rintro j ys Hq hj ⟨ts, ps, rfl, _, hps, hpl, _⟩
        rw [List.length_map, Paired.length hps]
        have hj3 : j < 3 := hj
        exact smallL (by omega)
      · rintro j ys Hq hj ⟨ts, ps, rfl, gq, hps, hpl, hpx⟩
        unfold tYes
        refine iteT ⟨_, rfl, _, rfl, _, _, rfl, rfl, _, rfl, _, _, rfl, rfl, l, 2 + n + i, ?_, gq.2, by omega, by omega, fun t k Hr ht hlt gr hR => ?_⟩
        · show [V.ref l, V.int (2 + (n : Int) + (0 + (i : Int)))] = _
          rw [show (2 + (n : Int) + (0 + (i : Int))) = ((2 + n + i : Nat) : Int) by omega]
        · refine ⟨ts ++ [t], ps ++ [k], by rw [List.map_append]; rfl, gq.trans gr, pairedSn (pairedMono (fun _ _ z => Bg.keepT gq.2 gr _ _ z) hps) (.cons hR .nil), by rw [List.length_append, hpl]; rfl, fun x hx => ?_⟩
          rcases List.mem_append.mp hx with h | h
          · exact hpx x h
          · rw [List.mem_singleton.mp h]
            exact hlt
      rintro ys H3 ⟨ts, ps, rfl, g3, hps, hpl, hpx⟩ pq hpq
      have hpl : ps.length = 3 := hpl
      obtain ⟨pa, pb, pc, rfl⟩ : ∃ a b c, ps = [a, b, c] := by
        match ps, hpl with
        | [a, b, c], _ => exact ⟨a, b, c, rfl⟩
      have npq : pq ≠ p := (ne_of_none (g3.1 _ _ npl fp) hpq).symm
      have s4 := same_new hpq (.lst (ts.map V.ref))
      have fq := upd_same (H := H3) (a := pq) (o := .lst (ts.map V.ref))
      have g4 := g3.trans (Bg.new g3.2 hpq (.lst (ts.map V.ref)))
      generalize upd H3 pq (.lst (ts.map V.ref)) = H4 at s4 fq g4 ⊢
      have hps := pairedMono (fun r q (z : PkAt H3 r q) => (s4 _ _ z : PkAt H4 r q)) hps
      have hP := pairedMono (fun r d h => DX.bg h g.2 g4) hP
      have fp := g4.1 _ _ npl fp
      have g := g.trans g4
      refine ⟨_, rfl, .inl ⟨rfl, _, SqL.of fp⟩, _, rfl, _, rfl, l, 2, rfl, g4.2, by decide, by decide, fun ff H5 f0 f2 g5 => ?_⟩
      obtain ⟨fn, rfl⟩ := Int.eq_ofNat_of_zero_le f0
      have hps := pairedMono (fun r q (z : PkAt H4 r q) => (Bg.keepT g.2 g5 _ _ z : PkAt H5 r q)) hps
      have fq := g5.1 _ _ (Bag.neR g.2 fq) fq
      have hP := pairedMono (fun r d h => DX.bg h g.2 g5) hP
      have fp := g5.1 _ _ npl fp
      have g := g.trans g5
      refine ⟨_, rfl, (by show 3 ≤ sizeLine; decide), fun r hr' => ?_⟩
      have s6 := same_new hr' (.tup [.int ((k0 : Nat) : Int), .int (fn : Int), .ref pq])
      have fr := upd_same (H := H5) (a := r) (o := .tup [.int ((k0 : Nat) : Int), .int (fn : Int), .ref pq])
      have g6 := g.trans (Bg.new g.2 hr' (.tup [.int ((k0 : Nat) : Int), .int (fn : Int), .ref pq]))
      generalize upd H5 r (.tup [.int ((k0 : Nat) : Int), .int (fn : Int), .ref pq]) = H6 at s6 fr g6 ⊢
      have fp := s6 _ _ fp
      have hrl := Paired.length hP
      refine ⟨p, _, _, rfl, rfl, fp, (by rw [List.length_map]; exact smallL (by omega)), ?_⟩
      have hd : DX p H6 r ⟨k0, fn, pa, pb, pc⟩ := ⟨pq, npq, fr, ts, s6 _ _ fq, pairedMono (fun _ _ z => s6 _ _ z) hps⟩
      have hcn : ((ds ++ [(⟨k0, fn, pa, pb, pc⟩ : Dd)]).filter fun d => d.k == 4).length = nb + cnt4 k0 := by rw [List.filter_append, List.length_append, hnb, cnt_one]
      refine ⟨_, _, _, rs ++ [r], ds ++ [⟨k0, fn, pa, pb, pc⟩], by rw [hcn]; rfl, ⟨fun c o nc e => by rw [upd_ne (ne_of_none e hp)]; exact g6.1 c o nc e, g6.2.set npl _⟩, by rw [upd_same, List.map_append]; rfl, pairedSn (pairedMono (fun r d h => DX.put (DX.same h s6) fp) hP) (.cons (DX.put hd fp) .nil), by rw [List.length_append, hl]; rfl, DOk.snoc ok hl hK (by show fn ≤ 1; omega) (hpx pa (by simp)) (hpx pb (by simp)) (hpx pc (by simp)), ?_⟩
      rw [hcn]
      unfold cnt4
      by_cases hz : k0 = 4
      · rw [if_pos hz]
        have := hK5 hz
        omega
      · rw [if_neg hz]
        exact h5
  · rintro σ H' ⟨x5, x6, x7, rs, ds, rfl, g, fp, hP, hl, ok, h5⟩
    rw [Int.toNat_natCast] at hl
    exact ⟨_, rfl, q p rs ds H' hp g ⟨fp, pairedMono (fun r d h => let ⟨qq, _, a, b⟩ := h; ⟨qq, a, b⟩) hP⟩ hl ok h5⟩
theorem ok_L_runs (T : Tx w K mg A) (G_L_due : FnOk P w K mg base CX0 2 A.a_L_due A.d_L_due ["_law_deeds_here", "_law_stand", "_law_row", "_law_ones"] sp_due) (G_L_beat : FnOk P w K mg base CX0 2 A.a_L_beat A.d_L_beat ["_law_work", "_law_stand", "_law_row", "_law_ones"] sp_beat) (G_L_worth : FnOk P w K mg base CX0 1 A.a_L_worth A.d_L_worth ["_law_worths", "_law_pick_here", "_law_ones"] sp_worth) : FnOk P w K mg base CX0 3 A.a_L_runs A.d_L_runs ["_law_work", "_law_deeds_here", "_law_outs", "_law_driven", "_law_rows", "_law_ones"] sp_runs := by
  refine T.F_L_runs.ok sc_L_runs (fun vs H Q E h => ?_) (fun cdv A' outer s H vs Q E hr h => ?_)
  · obtain ⟨wk, bb, gg, oo, pd, po, pw, prs, n, m, gs, pl, DV, fs, rs, ts, ds, es, outs, vv, dv, rr, rows, rfl, R, q⟩ := h
    rfl
  obtain ⟨wk, bb, gg, oo, pd, po, pw, prs, n, m, gs, pl, DV, fs, rs, ts, ds, es, outs, vv, dv, rr, rows, rfl, R, q⟩ := h
  have hu64 := hr.units
  refine ⟨_, (pss_cons (ps_compG ["_law_kind", "_law_first", "_law_picks"] [] sc_L_runs.nd (i := 6) rfl (Or.inl rfl) (fun _ _ h => h) rfl (pi_list (pv 1)) (fun _ _ _ _ => (pg_tup rfl (pgs_cons (pg_name (i := 0) (show (["_law_kind", "_law_first", "_law_picks"] : List Str).Nodup by decide +kernel) rfl (Or.inl rfl)) (pgs_cons (pg_name (i := 1) (show (["_law_kind", "_law_first", "_law_picks"] : List Str).Nodup by decide +kernel) rfl (Or.inl rfl)) (pgs_cons (pg_name (i := 2) (show (["_law_kind", "_law_first", "_law_picks"] : List Str).Nodup by decide +kernel) rfl (Or.inl rfl)) pgs_nil))))) shp_tup3 (fun _ _ _ _ => (pts_one (pt_cmpR op_eq (pv 0) pe_int (nomark _)))) (fun _ _ _ _ => (pv 1)) rfl (show ∀ j ∈ ([] : List Nat), j < 12 by decide) (by with_unfolding_all rfl))
    (pss_cons (ps_comp [5] sc_L_runs.nd (i := 7) rfl (Or.inl rfl) (fun _ _ h => h) rfl (pi_list (pv 6)) (fun _ _ _ _ => pts_nil) (fun _ _ _ _ => (pe_op op_mul (pv 0) (pv 1))) rfl (show ∀ j ∈ ([5] : List Nat), j < 12 by decide) (show (["_law_first", "_law_ones"] : List Str).Nodup by decide +kernel) (by with_unfolding_all rfl))
    (pss_cons (ps_set (i := 8) sc_L_runs.nd rfl (Or.inl rfl) (pe_callTy call_list_of rfl T.list PyProof.Rows.boot_list (pa_cons (pv 7) pa_nil)))
    (pss_cons (ps_for PassesOwn.never rfl (pi_list (pv 4)) (pg_name (i := 9) sc_L_runs.nd rfl (Or.inl rfl))
        (pss_cons (ps_set (i := 10) sc_L_runs.nd rfl (Or.inr rfl) (pe_call G_L_due (hr.mono (by first | decide | omega)) rfl T.M_L_due T.F_L_due.kp T.B_L_due .nil pass0 (pa_cons (pv 1) (pa_cons (pv 8) (pa_cons (pv 9) (pa_cons (pv 5) pa_nil))))))
    (pss_cons (ps_asg (pe_call G_L_beat (hr.mono (by first | decide | omega)) rfl T.M_L_beat T.F_L_beat.kp T.B_L_beat .nil pass0 (pa_cons (pv 0) (pa_cons (pv 7) (pa_cons (pe_callTy call_list_of rfl T.list PyProof.Rows.boot_list (pa_cons (pv 9) pa_nil)) (pa_cons (pv 5) pa_nil))))) (pg_tup rfl (pgs_cons (pg_name (i := 11) sc_L_runs.nd rfl (Or.inl rfl)) (pgs_cons (pg_name (i := 7) sc_L_runs.nd rfl (Or.inl rfl)) pgs_nil))))
    (pss_cons (ps_if (pt_cmpR (op_neD hu64) (pv 11) (pe_comp [10, 5] (fun _ _ h => h) rfl (pi_list (pv 2)) (fun _ _ _ _ => pts_nil) (fun _ _ _ _ => (pe_call G_L_worth (hr.mono (by first | decide | omega)) rfl T.M_L_worth T.F_L_worth.kp T.B_L_worth .nil pass0 (pa_cons (pv 1) (pa_cons (pv 0) (pa_cons (pv 2) pa_nil))))) rfl (show ∀ j ∈ ([10, 5] : List Nat), j < 12 by decide) (show (["_law_pick_here", "_law_worths", "_law_ones"] : List Str).Nodup by decide +kernel)) (nomark _)) (pss_one (ps_ret pe_bl)) pss_nil)
    (pss_one (ps_compG ["_law_bits", "_law_end_here"] [10, 5] sc_L_runs.nd (i := 8) rfl (Or.inl rfl) (fun _ _ h => h) rfl (pi_zip rfl T.zip (pa_cons (pv 8) (pa_cons (pv 3) pa_nil))) (fun _ _ _ _ => (pg_tup rfl (pgs_cons (pg_name (i := 0) (show (["_law_bits", "_law_end_here", "_law_worths", "_law_ones"] : List Str).Nodup by decide +kernel) rfl (Or.inl rfl)) (pgs_cons (pg_name (i := 1) (show (["_law_bits", "_law_end_here", "_law_worths", "_law_ones"] : List Str).Nodup by decide +kernel) rfl (Or.inl rfl)) pgs_nil)))) shp_tup2 (fun _ _ _ _ => pts_nil) (fun _ _ _ _ => (pe_ifExp (pt_cmpR op_isN (pv 1) pe_non (nomark _)) (pv 0) (pe_call G_L_worth (hr.mono (by first | decide | omega)) rfl T.M_L_worth T.F_L_worth.kp T.B_L_worth .nil pass0 (pa_cons (pv 2) (pa_cons (pv 1) (pa_cons (pv 3) pa_nil)))))) rfl (show ∀ j ∈ ([10, 5] : List Nat), j < 12 by decide) (by with_unfolding_all rfl)))))))
    (pss_one (ps_ret pe_bl)))))), ?_⟩
  have hrl := Paired.length R.hD.2
  have dl := R.dl
  have hfl : fs.length ≤ ds.length := by rw [R.hf, List.length_map]; exact List.length_filter_le _ _
  have hf1 : ∀ e ∈ fs, e ≤ 1 := fun e he => by
    rw [R.hf] at he
    obtain ⟨d, hd, rfl⟩ := List.mem_map.mp he
    obtain ⟨i, hi, ei⟩ := List.getElem_of_mem (List.mem_filter.mp hd).1
    exact (R.dk i d (by rw [List.getElem?_eq_getElem hi, ei])).2.1
  refine ⟨_, rfl, pd, rfl, ⟨_, SqL.of R.hD.1⟩, comp_listG (xs := rs.map V.ref) (fun i ys H' => H = H' ∧ ys = ((ds.take i).filter fun d => d.k == 4).map fun d => V.int (d.f : Int)) ⟨rfl, rfl⟩ ?_ ?_ ?_ ?_⟩
  · rintro i ys H' _ ⟨rfl, _⟩
    exact SqL.of R.hD.1
  · rintro i ys H' hi ⟨rfl, rfl⟩
    have := List.length_filter_le (fun d : Dd => d.k == 4) (ds.take i)
    rw [List.length_take] at this
    rw [List.length_map]
    exact smallL (by omega)
  · rintro i x ys H' os hos hx ⟨rfl, rfl⟩
    obtain ⟨u, v, w', rfl⟩ : ∃ u v w, os = [u, v, w] := by
      match os, hos with
      | [u, v, w], _ => exact ⟨u, v, w, rfl⟩
    rw [List.getElem?_map] at hx
    obtain ⟨r, hri, rfl⟩ := Option.map_eq_some_iff.mp hx
    obtain ⟨d, hdi, qq, hr3, _⟩ := Paired.at R.hD.2 hri
    refine ⟨r, _, rfl, SqT.of hr3, rfl, _, _, rfl, _, _, rfl, _, _, rfl, rfl, ?_⟩
    refine ⟨_, rfl, rfl, _, rfl, ?_⟩
    rw [take_get hdi, List.filter_append, List.map_append]
    by_cases h4 : d.k = 4
    · refine ite_t (decide_eq_true (by rw [h4]; rfl)) ⟨_, rfl, rfl, ?_⟩
      rw [show ([d].filter fun d => d.k == 4) = [d] by simp [h4]]
      rfl
    · refine ite_f (decide_eq_false fun h => h4 (by injection h with h; omega)) ⟨rfl, ?_⟩
      rw [show ([d].filter fun d => d.k == 4) = [] by simp [h4], List.map_nil, List.append_nil]
  rintro ys H' ⟨rfl, rfl⟩ p1 hp1
  have efs : ((ds.filter fun d => d.k == 4).map fun d => V.int (d.f : Int)) = nV fs := by
    rw [R.hf]
    unfold nV
    rw [List.map_map]
    rfl
  rw [List.length_map, hrl, List.take_length, efs]
  have s1 := same_new hp1 (.lst (nV fs))
  have f1 := upd_same (H := H) (a := p1) (o := .lst (nV fs))
  show tSeq _ _ _ _ (upd H p1 (.lst (nV fs)))
  generalize upd H p1 (.lst (nV fs)) = H1 at s1 f1 ⊢
  refine ⟨_, rfl, p1, rfl, ⟨_, SqL.of f1⟩, comp_list_map (fun x => match x with | .int i => .int (i * ((2 ^ m - 1 : Nat) : Int)) | v => v) (SqL.of f1) (by rw [nV_len]; omega) (fun x hx N hN => ?_) fun p2 hp2 => ?_⟩
  · obtain ⟨e, he, rfl⟩ := List.mem_map.mp hx
    have := hf1 e he
    exact ⟨_, rfl, _, rfl, _, _, rfl, rfl, .inl ⟨Int.lt_of_lt_of_le (by decide) (Int.natCast_nonneg e), Int.lt_of_le_of_lt (show ((e : Nat) : Int) ≤ 1 by omega) (by decide)⟩, hN⟩
  have est : ((nV fs).map fun x => match x with | .int i => .int (i * ((2 ^ m - 1 : Nat) : Int)) | v => v) = nV (fs.map fun k => k * (2 ^ m - 1)) := by
    unfold nV
    simp only [List.map_map]
    refine List.map_congr_left fun k _ => ?_
    show V.int ((k : Int) * ((2 ^ m - 1 : Nat) : Int)) = V.int ((k * (2 ^ m - 1) : Nat) : Int)
    rw [Int.natCast_mul]
  rw [est]
  have lo0 : Low m (fs.map fun k => k * (2 ^ m - 1)) := fun v hv => by
    obtain ⟨k, hk, rfl⟩ := List.mem_map.mp hv
    have h1 := hf1 k hk
    have hp : 0 < 2 ^ m := Nat.pow_pos (by decide)
    have : k = 0 ∨ k = 1 := by omega
    rcases this with rfl | rfl
    · rw [Nat.zero_mul]; exact hp
    · rw [Nat.one_mul]; omega
  have hl0 : (fs.map fun k => k * (2 ^ m - 1)).length = fs.length := List.length_map _
  generalize (fs.map fun k => k * (2 ^ m - 1)) = st0 at lo0 hl0 ⊢
  have s2 := s1.trans (same_new hp2 (.lst (nV st0)))
  have f2 := upd_same (H := H1) (a := p2) (o := .lst (nV st0))
  show tSeq _ _ _ _ (upd H1 p2 (.lst (nV st0)))
  generalize upd H1 p2 (.lst (nV st0)) = H2 at s2 f2 ⊢
  refine ⟨_, rfl, p2, _, rfl, .inl (SqL.of f2), fun p3 hp3 => ?_⟩
  have u3 := same_new hp3 (.lst (nV st0))
  have f3 := upd_same (H := H2) (a := p3) (o := .lst (nV st0))
  have f2 := u3 _ _ f2
  have s3 := s2.trans u3
  show tSeq _ _ _ [some (.ref wk), some (.ref pd), some (.ref po), some (.ref pw), some (.ref prs), some (.int ((2 ^ m - 1 : Nat) : Int)), some (.ref p1), some (.ref p2), some (.ref p3), none, none, none] (upd H2 p3 (.lst (nV st0)))
  generalize upd H2 p3 (.lst (nV st0)) = H3 at u3 f3 f2 s3 ⊢
  refine ⟨_, rfl, prs, rfl, ⟨_, SqL.of (s3 _ _ R.hR.1)⟩, for_list (xs := rr.map V.ref) (fun i σ H' => ∃ (x9 x10 x11 : Option V) (ps pt : Addr) (st : List Nat), σ = [some (.ref wk), some (.ref pd), some (.ref po), some (.ref pw), some (.ref prs), some (.int ((2 ^ m - 1 : Nat) : Int)), some (.ref p1), some (.ref ps), some (.ref pt), x9, x10, x11] ∧ Same H H' ∧ H' ps = some (.lst (nV st)) ∧ H' pt = some (.lst (nV st)) ∧ st.length = fs.length ∧ Low m st) ⟨_, _, _, p2, p3, st0, rfl, s3, f2, f3, hl0, lo0⟩ ?_ ?_ ?_⟩
  · rintro i σ H' _ ⟨_, _, _, _, _, _, _, s', _⟩
    exact SqL.of (s' _ _ R.hR.1)
  · rintro i x σ H4 hx ⟨x9, x10, x11, ps, pt, st, rfl, s4, fps, fpt, hst, ls⟩
    rw [List.getElem?_map] at hx
    obtain ⟨r, hri, rfl⟩ := Option.map_eq_some_iff.mp hx
    have R4 := R.same s4
    obtain ⟨row, hrow, fr, hrn, lr⟩ := Paired.at R4.hR.2 hri
    have hb := R.hb
    have hbg := bg_len gs (1 + n)
    have hgl := R.gl
    have hnn := R.nn
    show tSeq _ _ _ [some (.ref wk), some (.ref pd), some (.ref po), some (.ref pw), some (.ref prs), some (.int ((2 ^ m - 1 : Nat) : Int)), some (.ref p1), some (.ref ps), some (.ref pt), some (.ref r), x10, x11] H4
    refine ⟨_, rfl, _, rfl, _, rfl, _, rfl, pd, pt, r, rs, ds, n, m, st, row, rfl, R4.hD, by omega, R.dk, fpt, fr, hrn, hnn, lr, ls, by rw [due_count, hst, R.hf, List.length_map]; exact Nat.le_refl _, fun p5 H5 hp5 s5 f5 => ?_⟩
    have fps := s5 _ _ fps
    have fpt := s5 _ _ fpt
    have fr := s5 _ _ fr
    have s5 := s4.trans s5
    have R5 := R.same s5
    show tSeq _ _ _ [some (.ref wk), some (.ref pd), some (.ref po), some (.ref pw), some (.ref prs), some (.int ((2 ^ m - 1 : Nat) : Int)), some (.ref p1), some (.ref ps), some (.ref pt), some (.ref r), some (.ref p5), x11] H5
    refine ⟨_, rfl, _, rfl, _, rfl, r, _, rfl, .inl (SqL.of fr), fun p6 hp6 => ?_⟩
    have u6 := same_new hp6 (.lst (nV row))
    have f6 := upd_same (H := H5) (a := p6) (o := .lst (nV row))
    generalize upd H5 p6 (.lst (nV row)) = H6 at u6 f6 ⊢
    have fps := u6 _ _ fps
    have fpt := u6 _ _ fpt
    have f5 := u6 _ _ f5
    have s6 := s5.trans u6
    have R6 := R.same s6
    have hxl : (bxo pl DV (cN fs) (bkn (1 + n) gs)).length = fs.length := by unfold bxo cN; rw [List.length_map, List.length_zip, List.length_map]; omega
    have hgp : (gpl pl gs).length = (gkn (1 + n) gs).length := by unfold gpl; rw [List.length_map, gat_len gs (1 + n)]
    have plt : ∀ e, e / 2 < 1 + n + gs.length → pe pl e / 2 < 1 + n + (bxo pl DV (cN fs) (bkn (1 + n) gs)).length + (gpl pl gs).length := fun e he => by
      rw [pe_div, hxl, hgp]
      have := R.hP.all he
      omega
    refine ⟨_, rfl, wk, bb, gg, oo, ps, p6, n, m, _, gpl pl gs, (outs.map (eV es)).map (pe pl), st, row, rfl, R6.hW, fps, f6, hrn, by rw [hxl]; exact hst, by omega, by rw [hxl]; omega, by omega, by rw [List.length_map, List.length_map]; exact Nat.le_trans R.ol (by decide), lr, ls, by rw [hxl, ← R.hb]; exact R.hP.gok R.ok, ?_, ?_, fun t pO pN H7 s7 fT fO fN => ?_⟩
    · intro e he
      obtain ⟨e', he', rfl⟩ := List.mem_map.mp he
      obtain ⟨k, hk, rfl⟩ := List.mem_map.mp he'
      exact plt _ (R.eLt (R.ok2 k hk))
    · intro x hx
      unfold bxo at hx
      obtain ⟨z, hz, rfl⟩ := List.mem_map.mp hx
      obtain ⟨b, hbl, ez⟩ := List.getElem_of_mem hz
      have hzz : ((cN fs).zip (bkn (1 + n) gs))[b]? = some z := by rw [List.getElem?_eq_getElem hbl, ez]
      have hkb := (List.getElem?_zip_eq_some.mp hzz).2
      refine plt _ ?_
      have hDV := R.hDV b z.2 hkb
      cases hd : DV z.2 with
      | none =>
        obtain ⟨ai, ea, ca⟩ := bkn_at _ _ _ _ hkb
        have := (List.getElem?_eq_some_iff.mp ca).1
        show 2 * z.2 / 2 < _
        omega
      | some e =>
        rw [hd] at hDV
        cases hdb : dv.getD b none with
        | none => rw [hdb] at hDV; cases hDV
        | some k =>
          rw [hdb] at hDV
          cases hDV
          have hdb' : dv[b]? = some (some k) := by
            rw [List.getD_eq_getElem?_getD] at hdb
            cases hz2 : dv[b]? with
            | none => rw [hz2] at hdb; cases hdb
            | some o => rw [hz2] at hdb; exact congrArg some hdb
          exact R.eLt (R.dvAt hdb')
    rw [R.out hrn lr ls hst] at fO
    rw [R.next hrn lr ls hst] at fN
    have f5 := s7 _ _ f5
    have fpt := s7 _ _ fpt
    have s7 := s6.trans s7
    have R7 := R.same s7
    have dlow : Low m (dueL m row st ds).1 := due_low lr ls ds
    have dlen : (dueL m row st ds).1.length = es.length := by rw [due_len, R.el, hrn]
    generalize (dueL m row st ds).1 = W at f5 fO fN dlow dlen
    refine ⟨t, _, rfl, SqT.of fT, rfl, _, _, rfl, _, _, rfl, rfl, ?_⟩
    show tSeq _ _ _ [some (.ref wk), some (.ref pd), some (.ref po), some (.ref pw), some (.ref prs), some (.int ((2 ^ m - 1 : Nat) : Int)), some (.ref p1), some (.ref pN), some (.ref pt), some (.ref r), some (.ref p5), some (.ref pO)] H7
    refine ⟨_, rfl, _, rfl, po, rfl, ⟨_, SqL.of R7.ho.1⟩, comp_paired (fun k => .int ((wV m W k : Nat) : Int)) (SqL.of R7.ho.1) R7.ho.2 (by rw [Paired.length R7.ho.2]; exact Nat.le_trans R.ol (by decide)) (fun u k hR hkm N hN => ⟨_, rfl, _, rfl, _, rfl, p5, u, W, k, m, rfl, f5, hR, by rw [dlen]; exact R.ok2 k hkm, dlow, hN⟩) fun px hpx => ?_⟩
    have e9 : (outs.map fun k => V.int ((wV m W k : Nat) : Int)) = nV (outs.map (wV m W)) := by unfold nV; rw [List.map_map]; rfl
    rw [e9]
    have u8 := same_new hpx (.lst (nV (outs.map (wV m W))))
    have f8 := upd_same (H := H7) (a := px) (o := .lst (nV (outs.map (wV m W))))
    generalize upd H7 px (.lst (nV (outs.map (wV m W)))) = H8 at u8 f8 ⊢
    refine rEqD.eq _ (rdN (u8 _ _ fO)) (rdN f8) ((Cmp.list (n := 0) (Cmp.ints _)).mono (by decide)) ⟨_, rfl, ite_f rfl ?_⟩
    have fN := u8 _ _ fN
    have fpt := u8 _ _ fpt
    have f5 := u8 _ _ f5
    have s8 := s7.trans u8
    have R8 := R.same s8
    have vl := R.vl
    have hvl := Paired.length R8.hv.2
    refine ⟨_, rfl, _, rfl, pt, pw, rfl, ⟨_, SqL.of fpt⟩, ⟨_, SqL.of R8.hv.1⟩, comp_zip (xs := nV st) (us := vv) (fun i ys H' => Same H8 H' ∧ ys = nV (((st.zip dv).take i).map (nxt m W))) ⟨Same.refl _, rfl⟩ ?_ ?_ ?_ ?_ ?_⟩
    · rintro j ys H' _ ⟨s', _⟩
      exact ⟨SqL.of (s' _ _ fpt), SqL.of (s' _ _ R8.hv.1)⟩
    · rw [nV_len]
      omega
    · rintro j ys H' hj ⟨_, rfl⟩
      rw [nV_len] at hj
      rw [nV_len, List.length_map, List.length_take, List.length_zip]
      exact smallL (by omega)
    · rintro j x y pp ys H' os hos hx hy ⟨s', rfl⟩ hpp
      obtain ⟨u, v, rfl⟩ : ∃ u v, os = [u, v] := by
        match os, hos with
        | [u, v], _ => exact ⟨u, v, rfl⟩
      have hj : j < st.length := by
        have := (List.getElem?_eq_some_iff.mp hx).1
        rwa [nV_len] at this
      rw [nV_at hj] at hx
      cases hx
      obtain ⟨o, hoj, hR⟩ := Paired.at R8.hv.2 hy
      have hz : (st.zip dv)[j]? = some (st.getD j 0, o) := List.getElem?_zip_eq_some.mpr ⟨by rw [List.getElem?_eq_getElem hj, getD_at], hoj⟩
      have sp := same_new hpp (.tup [.int ((st.getD j 0 : Nat) : Int), y])
      refine ⟨pp, _, rfl, SqT.of upd_same, rfl, _, _, rfl, _, _, rfl, rfl, ?_⟩
      generalize upd H' pp (.tup [.int ((st.getD j 0 : Nat) : Int), y]) = Hx at sp ⊢
      rw [take_get hz, List.map_append]
      unfold tYes
      cases o with
      | none =>
        cases hR
        exact iteT ⟨_, rfl, rfl, _, rfl, ite_t rfl ⟨_, rfl, s'.trans sp, nV_snoc.symm⟩⟩
      | some k =>
        obtain ⟨hk, t2, rfl, hR⟩ := hR
        exact iteT ⟨_, rfl, rfl, _, rfl, ite_f rfl ⟨_, rfl, _, rfl, _, rfl, p5, t2, W, k, m, rfl, sp _ _ (s' _ _ f5), sp _ _ (s' _ _ hR), by rw [dlen]; exact hk, dlow, s'.trans sp, nV_snoc.symm⟩⟩
    · rintro ys H' ⟨s', rfl⟩ p9 hp9
      rw [nV_len, List.take_of_length_le (by rw [List.length_zip]; omega)]
      have u9 := s'.trans (same_new hp9 (.lst (nV ((st.zip dv).map (nxt m W)))))
      refine ⟨_, _, _, pN, p9, (st.zip dv).map (nxt m W), rfl, s8.trans u9, u9 _ _ fN, upd_same, by rw [List.length_map, List.length_zip]; omega, fun v hv => ?_⟩
      obtain ⟨⟨a, o⟩, hz, rfl⟩ := List.mem_map.mp hv
      cases o with
      | none => exact ls a (List.of_mem_zip hz).1
      | some k => exact wV_low dlow k
  · rintro σ H' ⟨_, _, _, _, _, _, rfl, s', _⟩
    exact q H' s'
theorem ok_law (T : Tx w K mg A) (G_L_deeds : FnOk P w K mg base CX0 3 A.a_L_deeds A.d_L_deeds ["_law_bag_here", "_law_ins", "_law_many"] sp_deeds) (G_L_bag : FnOk P w K mg base CX0 2 A.a_L_bag A.d_L_bag ["_law_script", "_law_k"] (sp_B_bag K)) (G_Bench_init : FnOk P w K mg base CX0 1 A.a_Bench_init A.d_Bench_init ["self", "ins"] (sp_B_init A.c_Bench)) (G_L_cell_at : FnOk P w K mg base CX0 1 A.a_L_cell_at A.d_L_cell_at ["_law_script", "_law_k"] (sp_cell_at K)) (G_L_pick : FnOk P w K mg base CX0 2 A.a_L_pick A.d_L_pick ["_law_bag_here", "_law_many"] sp_pick) (G_Bench_work : FnOk P w K mg base CX0 2 A.a_Bench_work A.d_Bench_work ["self", "outs"] (sp_B_work A.c_Bench)) (G_Bench_into : FnOk P w K mg base CX0 1 A.a_Bench_into A.d_Bench_into ["self", "k"] sp_B_into) (G_L_told : FnOk P w K mg base CX0 5 A.a_L_told A.d_L_told ["_law_bench", "_law_deed", "_law_ends_here"] (sp_told A.c_Bench)) (G_L_take : FnOk P w K mg base CX0 1 A.a_L_take A.d_L_take ["_law_bag_here", "_law_many"] sp_L_take) (G_L_whole : FnOk P w K mg base CX0 1 A.a_L_whole A.d_L_whole ["_law_found"] sp_whole) (G_Bench_drive : FnOk P w K mg base CX0 1 A.a_Bench_drive A.d_Bench_drive ["self", "box", "end"] (sp_B_drive A.c_Bench)) (G_L_end : FnOk P w K mg base CX0 1 A.a_L_end A.d_L_end ["_law_ends_here", "_law_pick_here"] sp_end) (G_L_formed : FnOk P w K mg base CX0 3 A.a_L_formed A.d_L_formed ["_law_work", "_law_ins", "_law_firsts", "_law_outs"] sp_formed) (G_L_runs : FnOk P w K mg base CX0 3 A.a_L_runs A.d_L_runs ["_law_work", "_law_deeds_here", "_law_outs", "_law_driven", "_law_rows", "_law_ones"] sp_runs) : FnOk P w K mg base CX0 6 A.a_law A.d_law ["_law_script"] (sp_law K) := by
  refine T.F_law.ok sc_law (fun vs H Q E h => ?_) (fun cdv A' outer s H vs Q E hr h => ?_)
  · obtain ⟨a, ss, rfl, hS, h63, q⟩ := h
    rfl
  obtain ⟨a, ss, rfl, hS, h63, q⟩ := h
  refine ⟨_, (pss_cons (ps_set (i := 1) sc_law.nd rfl (Or.inr rfl) (pe_op op_mod (pe_call G_L_cell_at (hr.mono (by first | decide | omega)) rfl T.M_L_cell_at T.F_L_cell_at.kp T.B_L_cell_at .nil pass0 (pa_cons (pv 0) (pa_cons pe_int pa_nil))) pe_int))
    (pss_cons (ps_set (i := 2) sc_law.nd rfl (Or.inl rfl) (pe_op op_sub (pe_op op_shl pe_int pe_int) pe_int))
    (pss_cons (ps_set (i := 3) sc_law.nd rfl (Or.inr rfl) (pe_call G_L_deeds (hr.mono (by first | decide | omega)) rfl T.M_L_deeds T.F_L_deeds.kp T.B_L_deeds .nil pass0 (pa_cons (pe_call G_L_bag (hr.mono (by first | decide | omega)) rfl T.M_L_bag T.F_L_bag.kp T.B_L_bag .nil pass0 (pa_cons (pv 0) (pa_cons pe_int pa_nil))) (pa_cons (pv 1) (pa_cons (pe_op op_mod (pe_op op_fdivL (pe_call G_L_cell_at (hr.mono (by first | decide | omega)) rfl T.M_L_cell_at T.F_L_cell_at.kp T.B_L_cell_at .nil pass0 (pa_cons (pv 0) (pa_cons pe_int pa_nil))) pe_int) pe_int) pa_nil)))))
    (pss_cons (ps_compG ["_law_kind", "_law_first", "_law_picks"] [] sc_law.nd (i := 4) rfl (Or.inl rfl) (fun _ _ h => h) rfl (pi_list (pv 3)) (fun _ _ _ _ => (pg_tup rfl (pgs_cons (pg_name (i := 0) (show (["_law_kind", "_law_first", "_law_picks"] : List Str).Nodup by decide +kernel) rfl (Or.inl rfl)) (pgs_cons (pg_name (i := 1) (show (["_law_kind", "_law_first", "_law_picks"] : List Str).Nodup by decide +kernel) rfl (Or.inl rfl)) (pgs_cons (pg_name (i := 2) (show (["_law_kind", "_law_first", "_law_picks"] : List Str).Nodup by decide +kernel) rfl (Or.inl rfl)) pgs_nil))))) shp_tup3 (fun _ _ _ _ => (pts_one (pt_cmpR op_eq (pv 0) pe_int (nomark _)))) (fun _ _ _ _ => (pv 1)) rfl (show ∀ j ∈ ([] : List Nat), j < 18 by decide) (by with_unfolding_all rfl))
    (pss_cons (ps_set (i := 5) sc_law.nd rfl (Or.inr rfl) (pe_call G_L_bag (hr.mono (by first | decide | omega)) rfl T.M_L_bag T.F_L_bag.kp T.B_L_bag .nil pass0 (pa_cons (pv 0) (pa_cons pe_int pa_nil))))
    (pss_cons (ps_comp [5, 1, 3] sc_law.nd (i := 6) rfl (Or.inl rfl) (fun _ _ h => h) rfl (pi_range1 rfl T.range (pa_cons (pe_call G_L_take (hr.mono (by first | decide | omega)) rfl T.M_L_take T.F_L_take.kp T.B_L_take .nil pass0 (pa_cons (pv 5) (pa_cons pe_int pa_nil))) pa_nil)) (fun _ _ _ _ => pts_nil) (fun _ _ _ _ => (pe_call G_L_pick (hr.mono (by first | decide | omega)) rfl T.M_L_pick T.F_L_pick.kp T.B_L_pick .nil pass0 (pa_cons (pv 1) (pa_cons (pe_op op_add (pe_op op_add pe_int (pv 2)) (pe_callB (call_lenK (K := K) rfl) rfl T.len PySem.boot_len (pa_cons (pv 3) pa_nil))) pa_nil)))) rfl (show ∀ j ∈ ([5, 1, 3] : List Nat), j < 18 by decide) (show (["_law_k", "_law_bag_here", "_law_ins", "_law_deeds_here"] : List Str).Nodup by decide +kernel) (by with_unfolding_all rfl))
    (pss_cons (ps_set (i := 7) sc_law.nd rfl (Or.inl rfl) (pe_lst pa_nil))
    (pss_cons (ps_for PassesOwn.never rfl (pi_range1 rfl T.range (pa_cons (pe_callB call_len rfl T.len PySem.boot_len (pa_cons (pv 4) pa_nil)) pa_nil)) (pg_name (i := 8) sc_law.nd rfl (Or.inl rfl))
        (pss_cons (ps_set (i := 9) sc_law.nd rfl (Or.inl rfl) (pe_call G_L_pick (hr.mono (by first | decide | omega)) rfl T.M_L_pick T.F_L_pick.kp T.B_L_pick .nil pass0 (pa_cons (pv 5) (pa_cons (pe_op op_add (pe_op op_add pe_int (pv 1)) (pe_callB call_len rfl T.len PySem.boot_len (pa_cons (pv 3) pa_nil))) pa_nil))))
    (pss_one (ps_expr (pe_bm PySem.F.plainAttrs_list PySem.F.slot_list_append PySem.F.type_list_append mt_append (pv 7) (pa_cons (pe_ix ix_list (pe_lst (pa_cons (pv 9) (pa_cons (pv 9) (pa_cons (pv 9) (pa_cons pe_non pa_nil))))) (pe_call G_L_take (hr.mono (by first | decide | omega)) rfl T.M_L_take T.F_L_take.kp T.B_L_take .nil pass0 (pa_cons (pv 5) (pa_cons pe_int pa_nil))) (fun _ _ => rfl)) pa_nil))))))
    (pss_cons (ps_set (i := 5) sc_law.nd rfl (Or.inr rfl) (pe_call G_L_bag (hr.mono (by first | decide | omega)) rfl T.M_L_bag T.F_L_bag.kp T.B_L_bag .nil pass0 (pa_cons (pv 0) (pa_cons pe_int pa_nil))))
    (pss_cons (ps_comp [5, 1] sc_law.nd (i := 10) rfl (Or.inl rfl) (fun _ _ h => h) rfl (pi_range1 rfl T.range (pa_cons pe_int pa_nil)) (fun _ _ _ _ => pts_nil) (fun _ _ _ _ => (pe_comp [1] (fun _ _ h => h) rfl (pi_range1 rfl T.range (pa_cons (pv 2) pa_nil)) (fun _ _ _ _ => pts_nil) (fun _ _ _ _ => (pe_op op_add (pe_op op_mul (pe_call G_L_take (hr.mono (by first | decide | omega)) rfl T.M_L_take T.F_L_take.kp T.B_L_take .nil pass0 (pa_cons (pv 1) (pa_cons pe_int pa_nil))) pe_int) (pe_call G_L_take (hr.mono (by first | decide | omega)) rfl T.M_L_take T.F_L_take.kp T.B_L_take .nil pass0 (pa_cons (pv 1) (pa_cons pe_int pa_nil))))) rfl (show ∀ j ∈ ([1] : List Nat), j < 3 by decide) (show (["_law_k", "_law_bag_here"] : List Str).Nodup by decide +kernel))) rfl (show ∀ j ∈ ([5, 1] : List Nat), j < 18 by decide) (show (["_law_j", "_law_bag_here", "_law_ins"] : List Str).Nodup by decide +kernel) (by with_unfolding_all rfl))
    (pss_cons (ps_set (i := 11) sc_law.nd rfl (Or.inr rfl) (pe_make T.mk_Bench G_Bench_init (hr.mono (by first | decide | omega)) rfl T.M_Bench T.B_Bench_init .nil pass0 (pa_cons (pv 1) pa_nil)))
    (pss_cons (ps_set (i := 12) sc_law.nd rfl (Or.inr rfl) (pe_op op_cat (pe_lst (pa_cons pe_int (pa_cons pe_int pa_nil))) (pe_comp [11] (fun _ _ h => h) rfl (pi_range1 rfl T.range (pa_cons (pv 1) pa_nil)) (fun _ _ _ _ => pts_nil) (fun _ _ _ _ => (pe_meth (pv 1) T.cl_Bench T.me_Bench_into G_Bench_into (hr.mono (by first | decide | omega)) T.B_Bench_into .nil pass0 (pa_cons (pv 0) pa_nil))) rfl (show ∀ j ∈ ([11] : List Nat), j < 18 by decide) (show (["_law_k", "_law_bench"] : List Str).Nodup by decide +kernel))))
    (pss_cons (ps_set (i := 13) sc_law.nd rfl (Or.inl rfl) (pe_lst pa_nil))
    (pss_cons (ps_for PassesOwn.never rfl (pi_list (pv 3)) (pg_name (i := 14) sc_law.nd rfl (Or.inl rfl))
        (pss_cons (ps_expr (pe_bm PySem.F.plainAttrs_list PySem.F.slot_list_append PySem.F.type_list_append mt_append (pv 12) (pa_cons (pe_call G_L_told (hr.mono (by first | decide | omega)) rfl T.M_L_told T.F_L_told.kp T.B_L_told .nil pass0 (pa_cons (pv 11) (pa_cons (pv 14) (pa_cons (pv 12) pa_nil)))) pa_nil)))
    (pss_cons (ps_if (PW.pt (pw_or (pt_not (pt_truth (pe_call G_L_whole (hr.mono (by first | decide | omega)) rfl T.M_L_whole T.F_L_whole.kp T.B_L_whole .nil pass0 (pa_cons (pe_ix ix_list (pv 12) (pe_un un_neg pe_int) (fun _ _ => rfl)) pa_nil)) (fun _ => rfl))) (pw_or1 (PW.pt (pw_and (pt_cmpR op_eq (pe_ix ix_tup (pv 14) pe_int (fun _ _ => rfl)) pe_int (nomark _)) (pw_and1 (pt_cmpR op_eq (pe_op op_mod (pe_ix ix_list (pv 12) (pe_un un_neg pe_int) (fun _ _ => rfl)) pe_int) pe_int (nomark _)))))))) (pss_one (ps_ret pe_bl)) pss_nil)
    (pss_one (ps_if (pt_cmpR op_eq (pe_ix ix_tup (pv 14) pe_int (fun _ _ => rfl)) pe_int (nomark _)) (pss_one (ps_expr (pe_bm PySem.F.plainAttrs_list PySem.F.slot_list_append PySem.F.type_list_append mt_append (pv 13) (pa_cons (pe_ix ix_list (pv 12) (pe_un un_neg pe_int) (fun _ _ => rfl)) pa_nil)))) pss_nil)))))
    (pss_cons (ps_for PassesOwn.never rfl (pi_list (pe_lst (pa_cons (pe_comp [] (fun _ _ h => h) rfl (pi_list (pv 13)) (fun _ _ _ _ => pts_nil) (fun _ _ _ _ => pe_non) rfl (show ∀ j ∈ ([] : List Nat), j < 18 by decide) (show (["_law_box"] : List Str).Nodup by decide +kernel)) (pa_cons (pv 7) pa_nil)))) (pg_name (i := 15) sc_law.nd rfl (Or.inl rfl))
        (pss_cons (ps_for PassesOwn.never rfl (pi_zip rfl T.zip (pa_cons (pv 13) (pa_cons (pv 15) pa_nil))) (pg_tup rfl (pgs_cons (pg_name (i := 16) sc_law.nd rfl (Or.inl rfl)) (pgs_cons (pg_name (i := 9) sc_law.nd rfl (Or.inl rfl)) pgs_nil)))
        (pss_one (ps_if (pt_cmpR op_notN (pv 9) pe_non (nomark _)) (pss_one (ps_expr (pe_meth (pv 11) T.cl_Bench T.me_Bench_drive G_Bench_drive (hr.mono (by first | decide | omega)) T.B_Bench_drive .nil pass0 (pa_cons (pv 16) (pa_cons (pe_call G_L_end (hr.mono (by first | decide | omega)) rfl T.M_L_end T.F_L_end.kp T.B_L_end .nil pass0 (pa_cons (pv 12) (pa_cons (pv 9) pa_nil))) pa_nil))))) pss_nil)))
    (pss_cons (ps_set (i := 17) sc_law.nd rfl (Or.inl rfl) (pe_meth (pv 11) T.cl_Bench T.me_Bench_work G_Bench_work (hr.mono (by first | decide | omega)) T.B_Bench_work .nil pass0 (pa_cons (pe_comp [12] (fun _ _ h => h) rfl (pi_list (pv 6)) (fun _ _ _ _ => pts_nil) (fun _ _ _ _ => (pe_call G_L_end (hr.mono (by first | decide | omega)) rfl T.M_L_end T.F_L_end.kp T.B_L_end .nil pass0 (pa_cons (pv 1) (pa_cons (pv 0) pa_nil)))) rfl (show ∀ j ∈ ([12] : List Nat), j < 18 by decide) (show (["_law_pick_here", "_law_ends_here"] : List Str).Nodup by decide +kernel)) pa_nil)))
    (pss_one (ps_if (PW.pt (pw_or (pt_not (pt_truth (pe_call G_L_formed (hr.mono (by first | decide | omega)) rfl T.M_L_formed T.F_L_formed.kp T.B_L_formed .nil pass0 (pa_cons (pv 17) (pa_cons (pv 1) (pa_cons (pv 4) (pa_cons (pe_callB call_len rfl T.len PySem.boot_len (pa_cons (pv 6) pa_nil)) pa_nil))))) (fun _ => rfl))) (pw_or1 (pt_not (pt_truth (pe_call G_L_runs (hr.mono (by first | decide | omega)) rfl T.M_L_runs T.F_L_runs.kp T.B_L_runs .nil pass0 (pa_cons (pv 17) (pa_cons (pv 3) (pa_cons (pv 6) (pa_cons (pv 15) (pa_cons (pv 10) (pa_cons (pv 2) pa_nil))))))) (fun _ => rfl)))))) (pss_one (ps_ret pe_bl)) pss_nil)))))
    (pss_one (ps_ret pe_bl))))))))))))))))), ?_⟩
  refine ⟨_, rfl, a, ss, 0, rfl, hS, by decide, fun v0 => ⟨_, _, rfl, rfl, (by show (0 : Int) < 4; decide), ?_⟩⟩
  obtain ⟨n, hn⟩ : ∃ n : Nat, v0 % 4 = (n : Int) := ⟨(v0 % 4).toNat, by omega⟩
  have hn3 : n ≤ 3 := by omega
  dsimp only
  rw [hn]
  refine ⟨_, _, rfl, rfl, ⟨by decide, by decide, by decide⟩, _, _, rfl, rfl, ?_⟩
  have eones : (1 : Int) * 2 ^ (32 : Int).toNat - 1 = ((2 ^ 32 - 1 : Nat) : Int) := by decide
  dsimp only
  rw [eones]
  clear hn eones
  refine ⟨_, rfl, a, ss, 1, rfl, hS, by decide, by decide, fun l c0 c1 hl hc0 => ?_⟩
  have t1 := same_new hl (.lst [.int c0, .int c1])
  have bag1 : Bag (upd H l (.lst [.int c0, .int c1])) l := ⟨c0, c1, upd_same, hc0⟩
  generalize upd H l (.lst [.int c0, .int c1]) = H1 at t1 bag1 ⊢
  refine ⟨_, rfl, _, rfl, a, ss, 0, rfl, t1.seq hS, by decide, fun v1 => ⟨_, _, rfl, rfl, ⟨by decide, by decide⟩, _, _, rfl, rfl, (by show (0 : Int) < 25; decide), ?_⟩⟩
  obtain ⟨N, hN⟩ : ∃ k : Nat, v1 / 4 % 25 = (k : Int) := ⟨(v1 / 4 % 25).toNat, by omega⟩
  have hN24 : N ≤ 24 := by omega
  dsimp only
  rw [hN]
  refine ⟨l, n, N, rfl, bag1, by omega, by omega, fun p rs ds H2 hp g2 hD hdl dok h5 => ?_⟩
  have t2 := Bg.same hl t1 g2
  clear hN t1 bag1 g2 hp
  have hrl := Paired.length hD.2
  obtain ⟨fs, hfs⟩ : ∃ fs, fs = (ds.filter fun d => d.k == 4).map Dd.f := ⟨_, rfl⟩
  have hfl : fs.length = (ds.filter fun d => d.k == 4).length := by rw [hfs, List.length_map]
  show tSeq _ _ _ [some (.ref a), some (.int (n : Int)), some (.int ((2 ^ 32 - 1 : Nat) : Int)), some (.ref p), none, none, none, none, none, none, none, none, none, none, none, none, none, none] H2
  refine ⟨_, rfl, p, rfl, ⟨_, SqL.of hD.1⟩, comp_listG (xs := rs.map V.ref) (fun i ys H' => H2 = H' ∧ ys = ((ds.take i).filter fun d => d.k == 4).map fun d => V.int (d.f : Int)) ⟨rfl, rfl⟩ ?_ ?_ ?_ ?_⟩
  · rintro i ys H' _ ⟨rfl, _⟩
    exact SqL.of hD.1
  · rintro i ys H' hi ⟨rfl, rfl⟩
    have := List.length_filter_le (fun d : Dd => d.k == 4) (ds.take i)
    rw [List.length_take] at this
    rw [List.length_map]
    exact smallL (by omega)
  · rintro i x ys H' os hos hx ⟨rfl, rfl⟩
    obtain ⟨u, v, w', rfl⟩ : ∃ u v w, os = [u, v, w] := by
      match os, hos with
      | [u, v, w], _ => exact ⟨u, v, w, rfl⟩
    rw [List.getElem?_map] at hx
    obtain ⟨r, hri, rfl⟩ := Option.map_eq_some_iff.mp hx
    obtain ⟨d, hdi, qq, hr3, _⟩ := Paired.at hD.2 hri
    refine ⟨r, _, rfl, SqT.of hr3, rfl, _, _, rfl, _, _, rfl, _, _, rfl, rfl, ?_⟩
    refine ⟨_, rfl, rfl, _, rfl, ?_⟩
    rw [take_get hdi, List.filter_append, List.map_append]
    by_cases h4 : d.k = 4
    · refine ite_t (decide_eq_true (by rw [h4]; rfl)) ⟨_, rfl, rfl, ?_⟩
      rw [show ([d].filter fun d => d.k == 4) = [d] by simp [h4]]
      rfl
    · refine ite_f (decide_eq_false fun h => h4 (by injection h with h; omega)) ⟨rfl, ?_⟩
      rw [show ([d].filter fun d => d.k == 4) = [] by simp [h4], List.map_nil, List.append_nil]
  rintro ys H' ⟨rfl, rfl⟩ p4 hp4
  have efs : ((ds.filter fun d => d.k == 4).map fun d => V.int (d.f : Int)) = nV fs := by
    rw [hfs]
    unfold nV
    rw [List.map_map]
    rfl
  rw [List.length_map, hrl, List.take_length, efs]
  have s3 := same_new hp4 (.lst (nV fs))
  have f4 := upd_same (H := H2) (a := p4) (o := .lst (nV fs))
  show tSeq _ _ _ [some (.ref a), some (.int (n : Int)), some (.int ((2 ^ 32 - 1 : Nat) : Int)), some (.ref p), some (.ref p4), none, none, none, none, none, none, none, none, none, none, none, none, none] (upd H2 p4 (.lst (nV fs)))
  generalize upd H2 p4 (.lst (nV fs)) = H3 at s3 f4 ⊢
  have hD := hD.same s3
  have t3 := t2.trans s3
  clear s3 t2 hp4 efs
  refine ⟨_, rfl, a, ss, 2, rfl, t3.seq hS, by decide, by decide, fun l2 e0 e1 hl2 he0 => ?_⟩
  have s4 := same_new hl2 (.lst [.int e0, .int e1])
  have bag2 : Bag (upd H3 l2 (.lst [.int e0, .int e1])) l2 := ⟨e0, e1, upd_same, he0⟩
  have nl4 : p4 ≠ l2 := ne_of_none f4 hl2
  have nl2 := t3.free hl2
  show tSeq _ _ _ [some (.ref a), some (.int (n : Int)), some (.int ((2 ^ 32 - 1 : Nat) : Int)), some (.ref p), some (.ref p4), some (.ref l2), none, none, none, none, none, none, none, none, none, none, none, none] (upd H3 l2 (.lst [.int e0, .int e1]))
  generalize upd H3 l2 (.lst [.int e0, .int e1]) = H4 at s4 bag2 ⊢
  have hD := hD.same s4
  have f4 := s4 _ _ f4
  have t4 := t3.trans s4
  clear s4 t3 he0
  refine ⟨_, rfl, l2, 6, rfl, bag2, by decide, by decide, fun d6 H5 d0 d1 g5 => ?_⟩
  obtain ⟨no, rfl⟩ := Int.eq_ofNat_of_zero_le d0
  have hD := hD.bg bag2 g5
  have f4 := g5.1 _ _ nl4 f4
  have t5 := Bg.same nl2 t4 g5
  clear t4 hl2
  refine ⟨_, rfl, by omega, by omega, comp_range (lo := 0) (fun j ys H' => ∃ (ts : List Addr) (ps : List Pk), ys = ts.map V.ref ∧ Bg l2 H5 H' ∧ Paired (PkAt H') ts ps ∧ ps.length = j ∧ ∀ x ∈ ps, x.1 < 2 + n + ds.length) ⟨[], [], rfl, Bg.refl g5.2, .nil, rfl, fun _ h => nomatch h⟩ ?_ ?_ ?_⟩
  · rintro j ys Hq hj ⟨ts, ps, rfl, _, hps, hpl, _⟩
    rw [List.length_map, Paired.length hps]
    exact smallL (by omega)
  · rintro j ys Hq hj ⟨ts, ps, rfl, gq, hps, hpl, hpx⟩
    unfold tYes
    refine iteT ⟨_, rfl, _, rfl, _, _, rfl, rfl, _, rfl, _, _, rfl, .inl ⟨_, SqL.of (hD.bg g5.2 gq).1, rfl⟩, _, _, rfl, rfl, l2, 2 + n + ds.length, ?_, gq.2, by omega, by omega, fun t k Hr ht hlt gr hR => ?_⟩
    · show [V.ref l2, V.int (2 + (n : Int) + (((rs.map V.ref).length : Nat) : Int))] = _
      rw [List.length_map, hrl, show (2 + (n : Int) + ((ds.length : Nat) : Int)) = ((2 + n + ds.length : Nat) : Int) by omega]
    · refine ⟨ts ++ [t], ps ++ [k], by rw [List.map_append]; rfl, gq.trans gr, pairedSn (pairedMono (fun _ _ z => Bg.keepT gq.2 gr _ _ z) hps) (.cons hR .nil), by rw [List.length_append, hpl]; rfl, fun x hx => ?_⟩
      rcases List.mem_append.mp hx with h | h
      · exact hpx x h
      · rw [List.mem_singleton.mp h]
        exact hlt
  rintro ys H6 ⟨ts, outs, rfl, g6, hps, hpl, hpx⟩ po hpo
  have hpl : outs.length = no := by omega
  have s7 := same_new hpo (.lst (ts.map V.ref))
  have fo := upd_same (H := H6) (a := po) (o := .lst (ts.map V.ref))
  have g7 := g6.trans (Bg.new g6.2 hpo (.lst (ts.map V.ref)))
  show tSeq _ _ _ [some (.ref a), some (.int (n : Int)), some (.int ((2 ^ 32 - 1 : Nat) : Int)), some (.ref p), some (.ref p4), some (.ref l2), some (.ref po), none, none, none, none, none, none, none, none, none, none, none] (upd H6 po (.lst (ts.map V.ref)))
  generalize upd H6 po (.lst (ts.map V.ref)) = H7 at s7 fo g7 ⊢
  have hps := pairedMono (fun r q (z : PkAt H6 r q) => (s7 _ _ z : PkAt H7 r q)) hps
  have hD := hD.bg g5.2 g7
  have f4 := g7.1 _ _ nl4 f4
  have t7 := Bg.same nl2 t5 g7
  have bag7 := g7.2
  clear s7 g6 g7 g5 t5 hpo bag2
  refine ⟨(by show 0 ≤ sizeLine; decide), fun pw hpw => ?_⟩
  have npw2 : pw ≠ l2 := bag7.ne hpw
  have g8 : Bg l2 H7 (upd H7 pw (.lst [])) := Bg.new bag7 hpw (.lst [])
  have fw := upd_same (H := H7) (a := pw) (o := .lst [])
  have hfs5 : fs.length ≤ 5 := by omega
  show tSeq _ _ _ [some (.ref a), some (.int (n : Int)), some (.int ((2 ^ 32 - 1 : Nat) : Int)), some (.ref p), some (.ref p4), some (.ref l2), some (.ref po), some (.ref pw), none, none, none, none, none, none, none, none, none, none] (upd H7 pw (.lst []))
  generalize upd H7 pw (.lst []) = H8 at g8 fw ⊢
  refine ⟨_, rfl, _, _, rfl, .inl ⟨_, SqL.of (g8.1 _ _ nl4 f4), rfl⟩, _, rfl, by rw [nV_len]; omega, by rw [nV_len]; omega, for_range (lo := 0) (fun i σ H' => ∃ (x8 x9 : Option V) (vs : List V) (dv : List (Option Pk)), σ = [some (.ref a), some (.int (n : Int)), some (.int ((2 ^ 32 - 1 : Nat) : Int)), some (.ref p), some (.ref p4), some (.ref l2), some (.ref po), some (.ref pw), x8, x9, none, none, none, none, none, none, none, none] ∧ Bg l2 H7 H' ∧ H' pw = some (.lst vs) ∧ Paired (DvR (2 + n + ds.length) H') vs dv ∧ dv.length = i) ⟨none, none, [], [], rfl, g8, fw, .nil, rfl⟩ ?_ ?_⟩
  · rintro i σ H9 hi ⟨x8, x9, vs, dv, rfl, g9, fw9, hv, hvl⟩
    rw [nV_len] at hi
    have hvl' := Paired.length hv
    refine ⟨_, rfl, _, rfl, _, _, rfl, rfl, _, rfl, _, _, rfl, .inl ⟨_, SqL.of (hD.bg bag7 g9).1, rfl⟩, _, _, rfl, rfl, l2, 2 + n + ds.length, ?_, g9.2, by omega, by omega, fun t k Ha ht hlt ga hR => ?_⟩
    · show [V.ref l2, V.int (2 + (n : Int) + (((rs.map V.ref).length : Nat) : Int))] = _
      rw [List.length_map, hrl, show (2 + (n : Int) + ((ds.length : Nat) : Int)) = ((2 + n + ds.length : Nat) : Int) by omega]
    have hv := pairedMono (fun v o h => DvR.keep (Bg.keepT g9.2 ga) h) hv
    have fw := ga.1 _ _ npw2 fw9
    have ga := g9.trans ga
    refine ⟨_, rfl, .inl ⟨rfl, _, SqL.of fw⟩, _, rfl, _, rfl, _, rfl, (by show 4 ≤ sizeLine; decide), fun z hz => ?_⟩
    have nz2 : z ≠ l2 := ga.2.ne hz
    have sz := same_new hz (.lst [.ref t, .ref t, .ref t, .non])
    have fz := upd_same (H := Ha) (a := z) (o := .lst [.ref t, .ref t, .ref t, .non])
    have gz := ga.trans (Bg.new ga.2 hz (.lst [.ref t, .ref t, .ref t, .non]))
    generalize upd Ha z (.lst [.ref t, .ref t, .ref t, .non]) = Hb at sz fz gz ⊢
    have hv := pairedMono (fun v o h => DvR.keep (KeepT.same sz) h) hv
    have hR : PkAt Hb t k := sz _ _ hR
    have fw := sz _ _ fw
    refine ⟨_, rfl, l2, 4, rfl, gz.2, by decide, by decide, fun d4 Hc d0 d1 gc => ?_⟩
    have hv := pairedMono (fun v o h => DvR.keep (Bg.keepT gz.2 gc) h) hv
    have hR : PkAt Hc t k := Bg.keepT gz.2 gc _ _ hR
    have fw := gc.1 _ _ npw2 fw
    have fz := gc.1 _ _ nz2 fz
    have gc := gz.trans gc
    obtain ⟨v, o, hat, hDv⟩ := dv_at (L := 2 + n + ds.length) d0 d1 hlt hR
    refine ⟨z, _, _, _, rfl, rfl, SqL.of fz, hat, pw, _, _, rfl, rfl, fw, smallL (by omega), ?_⟩
    have kt : KeepT Hc (upd Hc pw (.lst (vs ++ [v]))) := KeepT.lst fw _
    exact ⟨_, _, vs ++ [v], dv ++ [o], rfl, ⟨fun c u nc e => by rw [upd_ne (ne_of_none e hpw)]; exact gc.1 c u nc e, gc.2.set npw2 _⟩, upd_same, pairedSn (pairedMono (fun v o h => DvR.keep kt h) hv) (.cons (DvR.keep kt hDv) .nil), by rw [List.length_append, hvl]; rfl⟩
  rintro σ H9 ⟨x8, x9, vs, dv, rfl, g9, fw, hv, hvl⟩
  rw [nV_len, Int.toNat_natCast] at hvl
  have hD := hD.bg bag7 g9
  have f4 := g9.1 _ _ nl4 f4
  have fo := g9.1 _ _ (Bag.neR bag7 fo) fo
  have hps := pairedMono (fun r q (z : PkAt H7 r q) => (Bg.keepT bag7 g9 _ _ z : PkAt H9 r q)) hps
  have t9 := Bg.same nl2 t7 g9
  clear g8 t7 bag7
  show tSeq _ _ _ [some (.ref a), some (.int (n : Int)), some (.int ((2 ^ 32 - 1 : Nat) : Int)), some (.ref p), some (.ref p4), some (.ref l2), some (.ref po), some (.ref pw), x8, x9, none, none, none, none, none, none, none, none] H9
  refine ⟨_, rfl, a, ss, 3, rfl, t9.seq hS, by decide, by decide, fun l3 e0 e1 hl3 he0 => ?_⟩
  have s4 := same_new hl3 (.lst [.int e0, .int e1])
  have bag3 : Bag (upd H9 l3 (.lst [.int e0, .int e1])) l3 := ⟨e0, e1, upd_same, he0⟩
  have nl43 : p4 ≠ l3 := ne_of_none f4 hl3
  have npw3 : pw ≠ l3 := ne_of_none fw hl3
  have nl3 := t9.free hl3
  show tSeq _ _ _ [some (.ref a), some (.int (n : Int)), some (.int ((2 ^ 32 - 1 : Nat) : Int)), some (.ref p), some (.ref p4), some (.ref l3), some (.ref po), some (.ref pw), x8, x9, none, none, none, none, none, none, none, none] (upd H9 l3 (.lst [.int e0, .int e1]))
  generalize upd H9 l3 (.lst [.int e0, .int e1]) = Ha at s4 bag3 ⊢
  have hD := hD.same s4
  have f4 := s4 _ _ f4
  have fo := s4 _ _ fo
  have fw := s4 _ _ fw
  have hps := pairedMono (fun r q (z : PkAt H9 r q) => (s4 _ _ z : PkAt Ha r q)) hps
  have hv := pairedMono (fun v o h => DvR.keep (KeepT.same s4) h) hv
  have ta := t9.trans s4
  clear s4 t9 he0 hl3 g9
  refine ⟨_, rfl, by decide, by decide, comp_range (lo := 0) (fun j ys H' => ∃ (rr : List Addr) (rows : List (List Nat)), ys = rr.map V.ref ∧ Bg l3 Ha H' ∧ Paired (fun r row => r ≠ l3 ∧ H' r = some (.lst (nV row)) ∧ row.length = n ∧ Low 32 row) rr rows ∧ rows.length = j) ⟨[], [], rfl, Bg.refl bag3, .nil, rfl⟩ ?_ ?_ ?_⟩
  · rintro j ys Hq hj ⟨rr, rows, rfl, _, hr', hrw⟩
    have hj6 : j < 6 := hj
    rw [List.length_map, Paired.length hr']
    exact smallL (by omega)
  · rintro j ys Hq hj ⟨rr, rows, rfl, gq, hr', hrw⟩
    unfold tYes
    refine iteT ⟨_, rfl, _, rfl, by omega, by omega, comp_range (lo := 0) (fun i zs H' => ∃ ms : List Nat, zs = nV ms ∧ ms.length = i ∧ Low 32 ms ∧ Bg l3 Hq H') ⟨[], rfl, rfl, (fun _ h => nomatch h), Bg.refl gq.2⟩ ?_ ?_ ?_⟩
    · rintro i zs H' hi ⟨ms, rfl, hms, _, _⟩
      rw [nV_len]
      exact smallL (by omega)
    · rintro i zs H' hi ⟨ms, rfl, hms, lo, g⟩
      refine iteT ⟨_, rfl, l3, 65536, rfl, g.2, by decide, by decide, fun d1 Hu d10 d11 ga => ⟨_, _, rfl, rfl, .inr ⟨by decide, by decide⟩, _, rfl, l3, 65536, rfl, ga.2, by decide, by decide, fun d2 Hv d20 d21 gb => ⟨_, _, rfl, rfl, ?_⟩⟩⟩
      refine ⟨ms ++ [(d1 * 65536 + d2).toNat], ?_, by rw [List.length_append, hms]; rfl, ?_, (g.trans ga).trans gb⟩
      · rw [nV_snoc, Int.toNat_of_nonneg (by omega)]
      · intro v hv
        rcases List.mem_append.mp hv with h | h
        · exact lo v h
        · rw [List.mem_singleton.mp h]
          omega
    · rintro zs Hs ⟨ms, rfl, hms, lo, g⟩ r hr0
      have gn := g.trans (Bg.new g.2 hr0 (.lst (nV ms)))
      exact ⟨rr ++ [r], rows ++ [ms], by rw [List.map_append]; rfl, gq.trans gn, pairedSn (pairedMono (fun _ _ z => ⟨z.1, gn.1 _ _ z.1 z.2.1, z.2.2⟩) hr') (.cons ⟨g.2.ne hr0, upd_same, by omega, lo⟩ .nil), by rw [List.length_append, hrw]; rfl⟩
  rintro ys Hb ⟨rr, rows, rfl, gb, hr', hrw⟩ prs hprs
  have hrw : rows.length = 6 := hrw
  have sb := same_new hprs (.lst (rr.map V.ref))
  have fprs := upd_same (H := Hb) (a := prs) (o := .lst (rr.map V.ref))
  have gc := gb.trans (Bg.new gb.2 hprs (.lst (rr.map V.ref)))
  show tSeq _ _ _ [some (.ref a), some (.int (n : Int)), some (.int ((2 ^ 32 - 1 : Nat) : Int)), some (.ref p), some (.ref p4), some (.ref l3), some (.ref po), some (.ref pw), x8, x9, some (.ref prs), none, none, none, none, none, none, none] (upd Hb prs (.lst (rr.map V.ref)))
  generalize upd Hb prs (.lst (rr.map V.ref)) = Hc at sb fprs gc ⊢
  have hR : Paired (fun r row => Hc r = some (.lst (nV row)) ∧ row.length = n ∧ Low 32 row) rr rows := pairedMono (fun _ _ z => ⟨sb _ _ z.2.1, z.2.2⟩) hr'
  have hD := hD.bg bag3 gc
  have f4 := gc.1 _ _ nl43 f4
  have fo := gc.1 _ _ (Bag.neR bag3 fo) fo
  have fw := gc.1 _ _ npw3 fw
  have hps := pairedMono (fun r q (z : PkAt Ha r q) => (Bg.keepT bag3 gc _ _ z : PkAt Hc r q)) hps
  have hv := pairedMono (fun v o h => DvR.keep (Bg.keepT bag3 gc) h) hv
  have tc := Bg.same nl3 ta gc
  clear sb gb gc hr' hprs bag3 ta nl43 npw3
  refine ⟨_, rfl, fun x dx hx hdx hxd => ⟨x, dx, n, rfl, upd_same, fun B Hd hb' hdx' hfr hk hB => ⟨rfl, ?_⟩⟩⟩
  obtain ⟨s4, nB⟩ := made_ben hx hdx hb' hfr hk
  clear hfr hk
  subst hb'
  subst hdx'
  have offC : ∀ a o, Hc a = some o → Off B a := fun a o e => ⟨ne_of_none e nB.1, ne_of_none e nB.2.1, ne_of_none e nB.2.2.1, ne_of_none e nB.2.2.2.1, ne_of_none e nB.2.2.2.2.1, ne_of_none e nB.2.2.2.2.2.1, ne_of_none e nB.2.2.2.2.2.2⟩
  show tSeq _ _ _ [some (.ref a), some (.int (n : Int)), some (.int ((2 ^ 32 - 1 : Nat) : Int)), some (.ref p), some (.ref p4), some (.ref l3), some (.ref po), some (.ref pw), x8, x9, some (.ref prs), some (.ref B.b), none, none, none, none, none, none] Hd
  refine ⟨(by show 2 ≤ sizeLine; decide), fun q0 hq0 => ?_⟩
  have u5 := same_new hq0 (.lst [.int 0, .int 1])
  have fq0 := upd_same (H := Hd) (a := q0) (o := .lst [.int 0, .int 1])
  generalize upd Hd q0 (.lst [.int 0, .int 1]) = He at u5 fq0 ⊢
  have hB5 := hB.same u5
  refine ⟨_, rfl, _, rfl, by omega, by omega, comp_range_map (fun i => .int ((2 * (1 + i) : Nat) : Int)) (by omega) (fun i hi M hM => ⟨_, rfl, B.b, B.dx, _, rfl, hB5.ob, bFs_no (by decide), _, rfl, B.b, _, rfl, ?_⟩) fun q1 hq1 => ?_⟩
  · rw [show (2 : Int) * (1 + (0 + (i : Int))) = ((2 * (1 + i) : Nat) : Int) by omega]
    exact hM
  have eq1 : ((List.range ((n : Int)).toNat).map fun i => V.int ((2 * (1 + i) : Nat) : Int)) = nV ((List.range n).map fun i => 2 * (1 + i)) := by
    unfold nV
    rw [Int.toNat_natCast, List.map_map]
    rfl
  rw [eq1]
  have u6 := same_new hq1 (.lst (nV ((List.range n).map fun i => 2 * (1 + i))))
  have fq1 := upd_same (H := He) (a := q1) (o := .lst (nV ((List.range n).map fun i => 2 * (1 + i))))
  generalize upd He q1 (.lst (nV ((List.range n).map fun i => 2 * (1 + i)))) = Hf at u6 fq1 ⊢
  refine ⟨q0, q1, _, _, rfl, rfl, u6 _ _ fq0, fq1, small (by rw [nV_len, List.length_map, List.length_range]; show 2 + n ≤ _; omega), fun pe hpe => ?_⟩
  have u7 := same_new hpe (.lst (nV (es0 n)))
  have fpe := upd_same (H := Hf) (a := pe) (o := .lst (nV (es0 n)))
  show tSeq _ _ _ [some (.ref a), some (.int (n : Int)), some (.int ((2 ^ 32 - 1 : Nat) : Int)), some (.ref p), some (.ref p4), some (.ref l3), some (.ref po), some (.ref pw), x8, x9, some (.ref prs), some (.ref B.b), some (.ref pe), none, none, none, none, none] (upd Hf pe (.lst (nV (es0 n))))
  generalize upd Hf pe (.lst (nV (es0 n))) = Hg at u7 fpe ⊢
  have s7 := (u5.trans u6).trans u7
  have oe := (hB.same (u5.trans u6)).free hpe
  have hBg := hB.same s7
  have sg := s4.trans s7
  have hpeC := (s4.trans (u5.trans u6)).free hpe
  clear u5 u6 u7 fq0 fq1 hB5 hB eq1 hq0 hq1 s7
  refine ⟨(by show 0 ≤ sizeLine; decide), fun pbx hpbx => ?_⟩
  have u8 := same_new hpbx (.lst [])
  have fbx := upd_same (H := Hg) (a := pbx) (o := .lst [])
  have ob := hBg.free hpbx
  have nbe : pe ≠ pbx := ne_of_none fpe hpbx
  show tSeq _ _ _ [some (.ref a), some (.int (n : Int)), some (.int ((2 ^ 32 - 1 : Nat) : Int)), some (.ref p), some (.ref p4), some (.ref l3), some (.ref po), some (.ref pw), x8, x9, some (.ref prs), some (.ref B.b), some (.ref pe), some (.ref pbx), none, none, none, none] (upd Hg pbx (.lst []))
  generalize upd Hg pbx (.lst []) = Hh at u8 fbx ⊢
  have fpe := u8 _ _ fpe
  have hBh := hBg.same u8
  have sh := sg.trans u8
  have hbxC := sg.free hpbx
  have nbe : pe ≠ pbx := nbe
  clear u8 sg hBg hpbx hpe s4
  refine ⟨_, rfl, p, rfl, ⟨_, SqL.of (sh _ _ hD.1)⟩, for_list (xs := rs.map V.ref) (fun i σ H' => ∃ (x14 : Option V) (es : List Nat) (gs : List Cn) (fz : List Nat), σ = [some (.ref a), some (.int (n : Int)), some (.int ((2 ^ 32 - 1 : Nat) : Int)), some (.ref p), some (.ref p4), some (.ref l3), some (.ref po), some (.ref pw), x8, x9, some (.ref prs), some (.ref B.b), some (.ref pe), some (.ref pbx), x14, none, none, none] ∧ Same Hc H' ∧ BenOn A.c_Bench H' B n (cN fz) gs (fun _ => none) 0 ∧ H' pe = some (.lst (nV es)) ∧ H' pbx = some (.lst (nV ((bkn (1 + n) gs).map fun k => 2 * k))) ∧ es.length = 2 + n + i ∧ (∀ e ∈ es, e / 2 < 1 + n + gs.length) ∧ gs.length ≤ 3 * i ∧ EI n 32 gs es (ds.take i) ∧ fz = ((ds.take i).filter fun d => d.k == 4).map Dd.f) ⟨none, es0 n, [], [], rfl, sh, hBh, fpe, fbx, es0_len, es0_ok, Nat.le_refl _, EI_nil, rfl⟩ ?_ ?_ ?_⟩
  · rintro i σ H' _ ⟨_, _, _, _, _, s', _⟩
    exact SqL.of (s' _ _ hD.1)
  · rintro i x σ Hi hx ⟨x14, es, gs, fz, rfl, si, hBi, fpe, fbx, hel, hee, hgl, ei, hfz⟩
    rw [List.getElem?_map] at hx
    obtain ⟨r, hri, rfl⟩ := Option.map_eq_some_iff.mp hx
    obtain ⟨d, hdi, hR0⟩ := Paired.at hD.2 hri
    have hil := (List.getElem?_eq_some_iff.mp hdi).1
    obtain ⟨k4, kf, ka, kb, kc⟩ := dok i d hdi
    have hDi := DdAt.same hR0 si
    obtain ⟨qq, hrT, _⟩ := id hR0
    show tSeq _ _ _ [some (.ref a), some (.int (n : Int)), some (.int ((2 ^ 32 - 1 : Nat) : Int)), some (.ref p), some (.ref p4), some (.ref l3), some (.ref po), some (.ref pw), x8, x9, some (.ref prs), some (.ref B.b), some (.ref pe), some (.ref pbx), some (.ref r), none, none, none] Hi
    refine ⟨_, rfl, .inl ⟨rfl, _, SqL.of fpe⟩, _, rfl, _, rfl, _, rfl, B, r, pe, n, 0, _, gs, _, es, d, rfl, hBi, by omega, hDi, fpe, hee, k4, by omega, by omega, by omega, fun e fs' gs' Hj bd hBj told => ?_⟩
    have fpe := bd.off oe fpe
    have fbx := bd.off ob fbx
    have sj := bd.same si offC
    refine ⟨pe, _, _, rfl, rfl, fpe, (by rw [nV_len]; exact smallL (by omega)), ?_⟩
    have ck := Cl.one fpe (nV es ++ [.int (e : Int)])
    have hBk := hBj.cl ck (fun a ha => by rw [List.mem_singleton.mp ha]; exact oe)
    have fbx := ck.1 _ _ (fun z => nbe (List.mem_singleton.mp z).symm) fbx
    have fpe := upd_same (H := Hj) (a := pe) (o := .lst (nV es ++ [.int (e : Int)]))
    have sk : Same Hc (upd Hj pe (.lst (nV es ++ [.int (e : Int)]))) := sameUpd sj hpeC _
    show tSeq _ _ _ [some (.ref a), some (.int (n : Int)), some (.int ((2 ^ 32 - 1 : Nat) : Int)), some (.ref p), some (.ref p4), some (.ref l3), some (.ref po), some (.ref pw), x8, x9, some (.ref prs), some (.ref B.b), some (.ref pe), some (.ref pbx), some (.ref r), none, none, none] (upd Hj pe (.lst (nV es ++ [.int (e : Int)])))
    generalize upd Hj pe (.lst (nV es ++ [.int (e : Int)])) = Hk at ck hBk fbx fpe sk ⊢
    rw [← nV_snoc] at fpe
    clear ck hBj sj bd
    have hat1 : atI (nV (es ++ [e])) (-1) = some (.int (e : Int)) := by rw [nV_snoc]; exact atI_last _ _
    refine ⟨_, rfl, _, rfl, pe, _, _, _, rfl, rfl, SqL.of fpe, hat1, (e : Int), rfl, _, rfl, ite_f rfl ⟨_, rfl, r, _, _, _, rfl, rfl, SqT.of (sk _ _ hrT), rfl, rfl, _, rfl, ?_⟩⟩
    have hfzl : (bkn (1 + n) gs).length = ((ds.take i).filter fun d => d.k == 4).length := by
      have := hBi.fl
      rw [← this]
      unfold cN
      rw [List.length_map, hfz, List.length_map]
    have htl : (ds.take i).length = i := by rw [List.length_take]; omega
    by_cases h4 : d.k = 4
    · obtain ⟨_, rfl, rfl, rfl⟩ : d.k = 4 ∧ fs' = cN fz ++ [(d.f : Int)] ∧ gs' = gs ++ [none] ∧ e = 2 * (1 + n + gs.length) := by
        rcases told with h | h
        · exact h
        · exact absurd h4 h.1
      refine ite_t (decide_eq_true (by rw [h4]; rfl)) ⟨_, rfl, _, rfl, pe, _, _, _, rfl, rfl, SqL.of fpe, hat1, _, _, rfl, rfl, (by show (0 : Int) < 2; decide), rfl, _, rfl, ?_⟩
      refine ite_f (decide_eq_false fun h => by dsimp only at h; injection h with h; omega) ?_
      refine ⟨_, rfl, r, _, _, _, rfl, rfl, SqT.of (sk _ _ hrT), rfl, rfl, _, rfl, ite_t (decide_eq_true (by rw [h4]; rfl)) ?_⟩
      have hbl := bg_len gs (1 + n)
      refine ⟨_, rfl, .inl ⟨rfl, _, SqL.of fbx⟩, _, rfl, _, rfl, pe, _, _, _, rfl, rfl, SqL.of fpe, hat1, pbx, _, _, rfl, rfl, fbx, (by rw [nV_len, List.length_map]; exact smallL (by omega)), ?_⟩
      have cl := Cl.one fbx (nV ((bkn (1 + n) gs).map fun k => 2 * k) ++ [.int ((2 * (1 + n + gs.length) : Nat) : Int)])
      have hBl := hBk.cl cl (fun a ha => by rw [List.mem_singleton.mp ha]; exact ob)
      have fpe := cl.1 _ _ (fun z => nbe (List.mem_singleton.mp z)) fpe
      refine ⟨_, es ++ [2 * (1 + n + gs.length)], gs ++ [none], fz ++ [d.f], rfl, sameUpd sk hbxC _, ?_, fpe, ?_, by rw [List.length_append, hel]; rfl, ?_, by rw [List.length_append]; show gs.length + 1 ≤ _; omega, ?_, ?_⟩
      · rw [show cN (fz ++ [d.f]) = cN fz ++ [(d.f : Int)] by unfold cN; rw [List.map_append]; rfl]
        exact hBl
      · rw [upd_same, bkn_snocB, List.map_append, List.map_cons, List.map_nil, nV_snoc]
      · intro x hx
        rw [List.length_append, List.length_singleton]
        rcases List.mem_append.mp hx with h | h
        · have := hee x h
          omega
        · rw [List.mem_singleton.mp h]
          omega
      · rw [take_get hdi]
        exact EI_box ei (by rw [hel, htl]) hee hfzl h4
      · rw [take_get hdi, List.filter_append, List.map_append, ← hfz, show ([d].filter fun d => d.k == 4) = [d] by simp [h4]]
        rfl
    · obtain ⟨_, rfl, md⟩ : d.k ≠ 4 ∧ fs' = cN fz ∧ Mdo (1 + n) 3 gs gs' e (vK d.k (eV es d.a) (eV es d.b) (eV es d.c)) := by
        rcases told with h | h
        · exact absurd h.1 h4
        · exact h
      have ml := md.len
      obtain ⟨tt, et, _⟩ := md.grow
      have hbk : bkn (1 + n) gs' = bkn (1 + n) gs := by rw [et, bkn_gates]
      refine ite_f (decide_eq_false fun h => h4 (by injection h with h; omega)) (iteF ?_)
      refine ⟨_, rfl, r, _, _, _, rfl, rfl, SqT.of (sk _ _ hrT), rfl, rfl, _, rfl, ite_f (decide_eq_false fun h => h4 (by injection h with h; omega)) ?_⟩
      refine ⟨_, es ++ [e], gs', fz, rfl, sk, hBk, fpe, by rw [hbk]; exact fbx, by rw [List.length_append, hel]; rfl, ?_, by omega, ?_, ?_⟩
      · intro x hx
        rcases List.mem_append.mp hx with h | h
        · have := hee x h
          omega
        · rw [List.mem_singleton.mp h]
          exact md.lt
      · rw [take_get hdi]
        exact EI_gate ei (by rw [hel, htl]) hee h4 (by omega) (by omega) (by omega) md
      · rw [take_get hdi, List.filter_append, show ([d].filter fun d => d.k == 4) = [] by simp [h4], List.append_nil]
        exact hfz
  · rintro σ Hi ⟨x14, es, gs, fz, rfl, si, hBi, fpe, fbx, hel, hee, hgl, ei, hfz⟩
    rw [List.length_map, hrl] at hel hgl ei hfz
    rw [List.take_length] at ei hfz
    rw [← hfs] at hfz
    subst hfz
    have hfl' := hBi.fl
    have hcl : (cN fz).length = fz.length := by unfold cN; rw [List.length_map]
    have hbl := bg_len gs (1 + n)
    refine ⟨_, rfl, pbx, rfl, ⟨_, SqL.of fbx⟩, comp_list_map (fun _ => .non) (SqL.of fbx) (by rw [nV_len, List.length_map]; omega) (fun x _ M hM => hM) fun q2 hq2 => ?_⟩
    rw [show ((nV ((bkn (1 + n) gs).map fun k => 2 * k)).map fun _ => V.non) = List.replicate fz.length .non by rw [List.map_const', nV_len, List.length_map, ← hcl, hfl']]
    have u1 := same_new hq2 (.lst (List.replicate fz.length .non))
    have f2 := upd_same (H := Hi) (a := q2) (o := .lst (List.replicate fz.length .non))
    have o2 := hBi.free hq2
    generalize upd Hi q2 (.lst (List.replicate fz.length .non)) = Hj at u1 f2 ⊢
    refine ⟨_, rfl, (by show 2 ≤ sizeLine; decide), fun q3 hq3 => ?_⟩
    have u2 := same_new hq3 (.lst [.ref q2, .ref pw])
    have f3 := upd_same (H := Hj) (a := q3) (o := .lst [.ref q2, .ref pw])
    have o3 := (hBi.same u1).free hq3
    generalize upd Hj q3 (.lst [.ref q2, .ref pw]) = Hk at u2 f3 ⊢
    have f2 := u2 _ _ f2
    have u2 := u1.trans u2
    have sk := si.trans u2
    have hBk := hBi.same u2
    have fpe := u2 _ _ fpe
    have fbx := u2 _ _ fbx
    clear u1 u2 si hBi hq2 hq3
    refine ⟨q3, rfl, ⟨_, SqL.of f3⟩, for_list (xs := [.ref q2, .ref pw]) (fun i σ H' => ∃ (x9 x14 x15 x16 x17 : Option V) (DV : Nat → Option Nat) (dl : Nat), σ = [some (.ref a), some (.int (n : Int)), some (.int ((2 ^ 32 - 1 : Nat) : Int)), some (.ref p), some (.ref p4), some (.ref l3), some (.ref po), some (.ref pw), x8, x9, some (.ref prs), some (.ref B.b), some (.ref pe), some (.ref pbx), x14, x15, x16, x17] ∧ Same Hc H' ∧ BenOn A.c_Bench H' B n (cN fz) gs DV dl ∧ dl ≤ 100 * i ∧ (i ≤ 1 → ∀ k, DV k = none) ∧ H' q2 = some (.lst (List.replicate fz.length .non)) ∧ H' q3 = some (.lst [.ref q2, .ref pw]) ∧ H' pe = some (.lst (nV es)) ∧ H' pbx = some (.lst (nV ((bkn (1 + n) gs).map fun k => 2 * k)))) ⟨_, _, _, _, _, _, 0, rfl, sk, hBk, by omega, (fun _ _ => rfl), f2, f3, fpe, fbx⟩ ?_ ?_ ?_⟩
    · rintro i σ H' _ ⟨_, _, _, _, _, _, _, _, _, _, _, _, _, h, _⟩
      exact SqL.of h
    · rintro i x σ Hl hx ⟨x9, x14, x15, x16, x17, DV, dl, rfl, sl, hBl, hdl2, hDV0, f2, f3, fpe, fbx⟩
      have hi2 : i < 2 := (List.getElem?_eq_some_iff.mp hx).1
      obtain ⟨pp, vs', dv', rfl, fpp, hv', hvl', opp, hnone⟩ : ∃ (pp : Addr) (vs' : List V) (dv' : List (Option Pk)), x = .ref pp ∧ Hl pp = some (.lst vs') ∧ Paired (DvR es.length Hl) vs' dv' ∧ dv'.length = fz.length ∧ Off B pp ∧ (i = 0 → ∀ o ∈ dv', o = none) := by
        have : i = 0 ∨ i = 1 := by omega
        rcases this with rfl | rfl
        · cases hx
          exact ⟨q2, _, List.replicate fz.length none, rfl, f2, dv_none, List.length_replicate, o2, fun _ o ho => List.eq_of_mem_replicate ho⟩
        · cases hx
          refine ⟨pw, vs, dv, rfl, sl _ _ fw, ?_, hvl, offC _ _ fw, fun h => absurd h (by decide)⟩
          rw [hel]
          exact pairedMono (fun v o h => DvR.keep (KeepT.same sl) h) hv
      have hvl2 := Paired.length hv'
      show tSeq _ _ _ [some (.ref a), some (.int (n : Int)), some (.int ((2 ^ 32 - 1 : Nat) : Int)), some (.ref p), some (.ref p4), some (.ref l3), some (.ref po), some (.ref pw), x8, x9, some (.ref prs), some (.ref B.b), some (.ref pe), some (.ref pbx), x14, some (.ref pp), x16, x17] Hl
      refine ⟨_, rfl, _, rfl, pbx, pp, rfl, ⟨_, SqL.of fbx⟩, ⟨_, SqL.of fpp⟩, for_zip (xs := nV ((bkn (1 + n) gs).map fun k => 2 * k)) (ys := vs') (fun j σ H' => ∃ (x9 x16 : Option V) (DV' : Nat → Option Nat) (dl' : Nat), σ = [some (.ref a), some (.int (n : Int)), some (.int ((2 ^ 32 - 1 : Nat) : Int)), some (.ref p), some (.ref p4), some (.ref l3), some (.ref po), some (.ref pw), x8, x9, some (.ref prs), some (.ref B.b), some (.ref pe), some (.ref pbx), x14, some (.ref pp), x16, x17] ∧ Bd B Hl H' ∧ BenOn A.c_Bench H' B n (cN fz) gs DV' dl' ∧ dl' ≤ dl + j ∧ (∀ (b k : Nat), (bkn (1 + n) gs)[b]? = some k → DV' k = if b < j then (dv'.getD b none).map (eV es) else none) ∧ (∀ k e, DV' k = some e → e / 2 < 1 + n + gs.length) ∧ ((∀ o ∈ dv', o = none) → ∀ k, DV' k = none)) ⟨_, _, DV, dl, rfl, Bd.refl, hBl, by omega, (fun b k _ => by rw [if_neg (Nat.not_lt_zero _)]; exact hDV0 (by omega) k), (fun k e h => by rw [hDV0 (by omega) k] at h; cases h), fun _ => hDV0 (by omega)⟩ ?_ ?_ ?_ ?_⟩
      · rintro j σ H' ⟨_, _, _, _, _, bm, _⟩
        exact ⟨SqL.of (bm.off ob fbx), SqL.of (bm.off opp fpp)⟩
      · rw [nV_len, List.length_map]
        omega
      · rintro j x y t σ Hm hx hy ⟨x9, x16, DV', dl', rfl, bm, hBm, hdl3, hd1, hd2, hd3⟩ ht
        have hj : j < (bkn (1 + n) gs).length := by
          have := (List.getElem?_eq_some_iff.mp hx).1
          rwa [nV_len, List.length_map] at this
        have hkj : (bkn (1 + n) gs)[j]? = some (bkn (1 + n) gs)[j] := List.getElem?_eq_getElem hj
        rw [nV_get (by rw [List.length_map]; exact hj), List.getElem_map] at hx
        cases hx
        generalize (bkn (1 + n) gs)[j] = kk at hkj ⊢
        obtain ⟨o, hoj, hR0⟩ := Paired.at hv' hy
        have sm := same_new ht (.tup [.int ((2 * kk : Nat) : Int), y])
        refine ⟨t, _, rfl, SqT.of upd_same, rfl, _, _, rfl, _, _, rfl, rfl, ?_⟩
        generalize upd Hm t (.tup [.int ((2 * kk : Nat) : Int), y]) = Hn at sm ⊢
        have hBn := hBm.same sm
        have bn := bm.trans (Bd.of sm)
        have hodv : dv'.getD j none = o := by rw [List.getD_eq_getElem?_getD, hoj]; rfl
        refine ⟨_, rfl, rfl, _, rfl, ?_⟩
        cases o with
        | none =>
          cases hR0
          refine ite_f rfl ⟨_, _, DV', dl', rfl, bn, hBn, by omega, fun b k hbk => ?_, hd2, hd3⟩
          rw [hd1 b k hbk]
          by_cases hbj : b = j
          · subst hbj
            rw [if_neg (Nat.lt_irrefl _), if_pos (Nat.lt_succ_self _), hodv]
            rfl
          · by_cases hlt : b < j
            · rw [if_pos hlt, if_pos (by omega)]
            · rw [if_neg hlt, if_neg (by omega)]
        | some k =>
          obtain ⟨hk, t2, rfl, hR1⟩ := hR0
          have hRn := bn.keepT hBl _ _ hR1
          have heb := eLt_of hee hk
          refine ite_t rfl ⟨_, rfl, B.b, B.dx, _, rfl, hBn.ob, bFs_dr, _, rfl, _, rfl, _, rfl, pe, t2, es, k, rfl, bn.off oe fpe, hRn, hk, B, n, dl', cN fz, gs, DV', 2 * kk, eV es k, rfl, hBn, by omega, fun Ho bd hBo => ?_⟩
          have hk2 : 2 * kk / 2 = kk := by omega
          rw [hk2] at hBo
          refine ⟨_, _, _, dl' + 1, rfl, bn.trans bd, hBo, by omega, fun b k' hbk => ?_, fun k' e he => ?_, fun hall => ?_⟩
          · by_cases hbj : b = j
            · subst hbj
              rw [hkj] at hbk
              cases hbk
              rw [if_pos rfl, if_pos (Nat.lt_succ_self _), hodv]
              rfl
            · have hne : k' ≠ kk := fun z => hbj (bkn_inj _ _ _ _ _ hbk (z ▸ hkj))
              rw [if_neg hne, hd1 b k' hbk]
              by_cases hlt : b < j
              · rw [if_pos hlt, if_pos (by omega)]
              · rw [if_neg hlt, if_neg (by omega)]
          · by_cases hz : k' = kk
            · rw [if_pos hz] at he
              cases he
              exact heb
            · rw [if_neg hz] at he
              exact hd2 k' e he
          · cases hall (some k) (List.mem_of_getElem? hoj)
      · rintro σ Hm ⟨x9, x16, DV', dl', rfl, bm, hBm, hdl3, hd1, hd2, hd3⟩
        rw [nV_len, List.length_map] at hd1 hdl3
        have sm := bm.same sl offC
        have hpsm := pairedMono (fun r q (z : PkAt Hc r q) => (sm _ _ z : PkAt Hm r q)) hps
        have hbkl : (bkn (1 + n) gs).length = fz.length := by omega
        have hfz5 : fz.length ≤ 5 := hfs5
        show tSeq _ _ _ [some (.ref a), some (.int (n : Int)), some (.int ((2 ^ 32 - 1 : Nat) : Int)), some (.ref p), some (.ref p4), some (.ref l3), some (.ref po), some (.ref pw), x8, x9, some (.ref prs), some (.ref B.b), some (.ref pe), some (.ref pbx), x14, some (.ref pp), x16, x17] Hm
        refine ⟨_, rfl, B.b, B.dx, _, rfl, hBm.ob, bFs_no (by decide), _, rfl, po, rfl, ⟨_, SqL.of (sm _ _ fo)⟩, comp_paired (fun k => .int ((eV es k : Nat) : Int)) (SqL.of (sm _ _ fo)) hpsm (by rw [Paired.length hps]; omega) (fun u k hR2 hkm M hM => ⟨_, rfl, _, rfl, pe, u, es, k, rfl, bm.off oe fpe, hR2, by rw [hel]; exact hpx k hkm, hM⟩) fun q5 hq5 => ?_⟩
        rw [show (outs.map fun k => V.int ((eV es k : Nat) : Int)) = nV (outs.map (eV es)) by unfold nV; rw [List.map_map]; rfl]
        have u5 := same_new hq5 (.lst (nV (outs.map (eV es))))
        have f5 := upd_same (H := Hm) (a := q5) (o := .lst (nV (outs.map (eV es))))
        generalize upd Hm q5 (.lst (nV (outs.map (eV es)))) = Hp2 at u5 f5 ⊢
        refine ⟨B, n, dl', cN fz, gs, DV', q5, outs.map (eV es), rfl, hBm.same u5, by omega, by omega, f5, by rw [List.length_map]; omega, ?_, hd2, fun pl wk bb gg oo Hr hPl _ _ _ _ _ sr hW => ?_⟩
        · intro e he
          obtain ⟨k, hk, rfl⟩ := List.mem_map.mp he
          exact eLt_of hee (by rw [hel]; exact hpx k hk)
        have hDVf : ∀ (b k : Nat), (bkn (1 + n) gs)[b]? = some k → DV' k = (dv'.getD b none).map (eV es) := fun b k h => by rw [hd1 b k h, if_pos (List.getElem?_eq_some_iff.mp h).1]
        have s9 := sm.trans (u5.trans sr)
        have hxl : (bxo pl DV' (cN fz) (bkn (1 + n) gs)).length = fz.length := by unfold bxo; rw [List.length_map, List.length_zip]; omega
        have hgp : (gpl pl gs).length = (gkn (1 + n) gs).length := by unfold gpl; rw [List.length_map, gat_len gs (1 + n)]
        have plt : ∀ e, e / 2 < 1 + n + gs.length → L2.pe pl e / 2 < 1 + n + (bxo pl DV' (cN fz) (bkn (1 + n) gs)).length + (gpl pl gs).length := fun e he => by
          rw [pe_div, hxl, hgp]
          have := hPl.all he
          omega
        show tSeq _ _ _ [some (.ref a), some (.int (n : Int)), some (.int ((2 ^ 32 - 1 : Nat) : Int)), some (.ref p), some (.ref p4), some (.ref l3), some (.ref po), some (.ref pw), x8, x9, some (.ref prs), some (.ref B.b), some (.ref pe), some (.ref pbx), x14, some (.ref pp), x16, some (.ref wk)] Hr
        refine ⟨_, rfl, _, rfl, _, rfl, _, rfl, _, _, rfl, .inl ⟨_, SqL.of (s9 _ _ fo), rfl⟩, wk, bb, gg, oo, p4, n, bxo pl DV' (cN fz) (bkn (1 + n) gs), gpl pl gs, (outs.map (eV es)).map (L2.pe pl), ?_, hW, ?_, by rw [hxl]; omega, by omega, by rw [List.length_map, List.length_map]; omega, by rw [hxl, ← hbkl]; exact hPl.gok hBm.ok, ?_, ?_, fun Hs ss => ⟨_, rfl, ite_f rfl ?_⟩⟩
        · rw [List.length_map, List.length_map, List.length_map, Paired.length hps]
          rfl
        · rw [bxo_fst (by omega), show (cN fz).map V.int = nV fz from (nV_eq _).symm]
          exact s9 _ _ f4
        · intro e he
          obtain ⟨e', he', rfl⟩ := List.mem_map.mp he
          obtain ⟨k, hk, rfl⟩ := List.mem_map.mp he'
          exact plt _ (eLt_of hee (by rw [hel]; exact hpx k hk))
        · intro x hx
          unfold bxo at hx
          obtain ⟨z, hz, rfl⟩ := List.mem_map.mp hx
          obtain ⟨b, hbl2, ez⟩ := List.getElem_of_mem hz
          have hzz : ((cN fz).zip (bkn (1 + n) gs))[b]? = some z := by rw [List.getElem?_eq_getElem hbl2, ez]
          have hkb := (List.getElem?_zip_eq_some.mp hzz).2
          refine plt _ ?_
          cases hd : DV' z.2 with
          | none =>
            obtain ⟨ai, ea, ca⟩ := bkn_at _ _ _ _ hkb
            have := (List.getElem?_eq_some_iff.mp ca).1
            show 2 * z.2 / 2 < _
            omega
          | some e => exact hd2 _ e hd
        have sS := s9.trans ss
        have sq := (u5.trans sr).trans ss
        have kq : KeepT Hl Hs := (bm.keepT hBl).trans (KeepT.same sq)
        refine ⟨_, rfl, _, rfl, _, rfl, _, rfl, _, rfl, _, rfl, wk, bb, gg, oo, p, po, pp, prs, n, 32, gs, pl, DV', fz, rs, ts, ds, es, outs, vs', dv', rr, rows, rfl, ⟨hW.same ss, hPl, hBm.ok, hD.same sS, dok, by omega, hfs, hbkl, ⟨sS _ _ fo, pairedMono (fun _ _ z => sS _ _ z) hps⟩, by omega, (fun x hx => by rw [hel]; exact hpx x hx), hel, hee, ⟨sq _ _ (bm.off opp fpp), pairedMono (fun v o h => DvR.keep kq h) hv'⟩, hvl', hDVf, ⟨sS _ _ fprs, pairedMono (fun _ _ z => ⟨sS _ _ z.1, z.2⟩) hR⟩, by omega, by omega, by omega, ei⟩, fun Ht st' => ⟨_, rfl, ite_f rfl ?_⟩⟩
        have sA := sq.trans st'
        exact ⟨_, _, _, _, _, DV', dl', rfl, sm.trans sA, hBm.same sA, by omega, (fun h => hd3 (hnone (by omega))), sA _ _ (bm.off o2 f2), sA _ _ (bm.off o3 f3), sA _ _ (bm.off oe fpe), sA _ _ (bm.off ob fbx)⟩
    · rintro σ H' _
      exact q H'
end

theorem all_ok {P : Program} {w : World} {K : PySem.W.Frag} {mg : Str → Option Value} {base : Heap} {A : Ad} (T : Tx w K mg A) : FnOk P w K mg base CX0 6 A.a_law A.d_law ["_law_script"] (sp_law K) := by
  have G_Bench_init := ok_Bench_init (P := P) (base := base) T
  have G_Bench_into := ok_Bench_into (P := P) (base := base) T
  have G_Bench_new_knot := ok_Bench_new_knot (P := P) (base := base) T
  have G_Bench_box := ok_Bench_box (P := P) (base := base) T G_Bench_new_knot
  have G_Bench_drive := ok_Bench_drive (P := P) (base := base) T
  have G_both_without_gate := ok_both_without_gate (P := P) (base := base) T
  have G_Bench_both := ok_Bench_both (P := P) (base := base) T G_both_without_gate G_Bench_new_knot
  have G_Bench_either := ok_Bench_either (P := P) (base := base) T G_Bench_both
  have G_Bench_odd := ok_Bench_odd (P := P) (base := base) T G_Bench_both G_Bench_either
  have G_Bench_choice := ok_Bench_choice (P := P) (base := base) T G_Bench_either G_Bench_both
  have G_placed := ok_placed (P := P) (base := base) T
  have G_Bench_work := ok_Bench_work (P := P) (base := base) T G_placed
  have G_L_cell_at := ok_L_cell_at (P := P) (base := base) T
  have G_L_bag := ok_L_bag (P := P) (base := base) T G_L_cell_at
  have G_L_take := ok_L_take (P := P) (base := base) T
  have G_L_whole := ok_L_whole (P := P) (base := base) T
  have G_L_ends := ok_L_ends (P := P) (base := base) T G_L_whole
  have G_L_formed := ok_L_formed (P := P) (base := base) T G_L_ends G_L_whole
  have G_L_side := ok_L_side (P := P) (base := base) T
  have G_L_beat := ok_L_beat (P := P) (base := base) T G_L_side
  have G_L_pick := ok_L_pick (P := P) (base := base) T G_L_take
  have G_L_end := ok_L_end (P := P) (base := base) T
  have G_L_told := ok_L_told (P := P) (base := base) T G_Bench_choice G_Bench_box G_L_end G_Bench_both G_Bench_either G_Bench_odd
  have G_L_worth := ok_L_worth (P := P) (base := base) T
  have G_L_due := ok_L_due (P := P) (base := base) T G_L_worth
  have G_L_deeds := ok_L_deeds (P := P) (base := base) T G_L_take G_L_pick
  have G_L_runs := ok_L_runs (P := P) (base := base) T G_L_due G_L_beat G_L_worth
  exact ok_law T G_L_deeds G_L_bag G_Bench_init G_L_cell_at G_L_pick G_Bench_work G_Bench_into G_L_told G_L_take G_L_whole G_Bench_drive G_L_end G_L_formed G_L_runs
theorem of_len1 {fd : FuncData} {ns : List Str} (h : ∀ a0, bindArgs fd ⟨[a0], []⟩ = pure (ns.zip [a0])) : ∀ us : List Value, us.length = 1 → bindArgs fd ⟨us, []⟩ = pure (ns.zip us) := fun us hl => by
  match us, hl with
  | [a0], _ => exact h a0
theorem of_len2 {fd : FuncData} {ns : List Str} (h : ∀ a0 a1, bindArgs fd ⟨[a0, a1], []⟩ = pure (ns.zip [a0, a1])) : ∀ us : List Value, us.length = 2 → bindArgs fd ⟨us, []⟩ = pure (ns.zip us) := fun us hl => by
  match us, hl with
  | [a0, a1], _ => exact h a0 a1
theorem of_len3 {fd : FuncData} {ns : List Str} (h : ∀ a0 a1 a2, bindArgs fd ⟨[a0, a1, a2], []⟩ = pure (ns.zip [a0, a1, a2])) : ∀ us : List Value, us.length = 3 → bindArgs fd ⟨us, []⟩ = pure (ns.zip us) := fun us hl => by
  match us, hl with
  | [a0, a1, a2], _ => exact h a0 a1 a2
theorem of_len4 {fd : FuncData} {ns : List Str} (h : ∀ a0 a1 a2 a3, bindArgs fd ⟨[a0, a1, a2, a3], []⟩ = pure (ns.zip [a0, a1, a2, a3])) : ∀ us : List Value, us.length = 4 → bindArgs fd ⟨us, []⟩ = pure (ns.zip us) := fun us hl => by
  match us, hl with
  | [a0, a1, a2, a3], _ => exact h a0 a1 a2 a3
theorem of_len6 {fd : FuncData} {ns : List Str} (h : ∀ a0 a1 a2 a3 a4 a5, bindArgs fd ⟨[a0, a1, a2, a3, a4, a5], []⟩ = pure (ns.zip [a0, a1, a2, a3, a4, a5])) : ∀ us : List Value, us.length = 6 → bindArgs fd ⟨us, []⟩ = pure (ns.zip us) := fun us hl => by
  match us, hl with
  | [a0, a1, a2, a3, a4, a5], _ => exact h a0 a1 a2 a3 a4 a5
theorem all_mk {w : World} {K : PySem.W.Frag} {h : Heap} {mg : Str → Option Value} {fa : Addr} (X : K.In h) (G : h.Ns mainGlobals mg) (hfa : mg "law" = some (.ref fa))
    {f0 f1 f2 f3 f4 f5 f6 f7 f8 f9 f10 f11 f12 f13 f14 f15 f16 f17 f18 f19 f20 f21 f22 f23 f24 f25 f26 f27 : Addr} {od0 an0 od1 an1 od2 an2 od3 an3 od4 an4 od5 an5 od6 an6 od7 an7 od8 an8 od9 an9 od10 an10 od11 an11 od12 an12 od13 an13 od14 an14 od15 an15 od16 an16 od17 an17 od18 an18 od19 an19 od20 an20 od21 an21 od22 an22 od23 an23 od24 an24 od25 an25 od26 an26 od27 an27 : Option Addr} {sl0 sl1 sl2 sl3 sl4 sl5 sl6 sl7 sl8 sl9 sl10 sl11 sl12 sl13 sl14 sl15 sl16 sl17 sl18 sl19 sl20 sl21 sl22 sl23 sl24 sl25 sl26 sl27 : Array (Option Value)} {oc0 kV0 dc0 pm0 cd0 ct0 oc1 kV1 dc1 pm1 cd1 ct1 oc2 kV2 dc2 pm2 cd2 ct2 oc3 kV3 dc3 pm3 cd3 ct3 oc4 kV4 dc4 pm4 cd4 ct4 oc5 kV5 dc5 pm5 cd5 ct5 oc6 kV6 dc6 pm6 cd6 ct6 oc7 kV7 dc7 pm7 cd7 ct7 oc8 kV8 dc8 pm8 cd8 ct8 oc9 kV9 dc9 pm9 cd9 ct9 oc10 kV10 dc10 pm10 cd10 ct10 oc11 kV11 dc11 pm11 cd11 ct11 oc12 kV12 dc12 pm12 cd12 ct12 oc13 kV13 dc13 pm13 cd13 ct13 oc14 kV14 dc14 pm14 cd14 ct14 oc15 kV15 dc15 pm15 cd15 ct15 oc16 kV16 dc16 pm16 cd16 ct16 oc17 kV17 dc17 pm17 cd17 ct17 oc18 kV18 dc18 pm18 cd18 ct18 oc19 kV19 dc19 pm19 cd19 ct19 oc20 kV20 dc20 pm20 cd20 ct20 oc21 kV21 dc21 pm21 cd21 ct21 oc22 kV22 dc22 pm22 cd22 ct22 oc23 kV23 dc23 pm23 cd23 ct23 oc24 kV24 dc24 pm24 cd24 ct24 oc25 kV25 dc25 pm25 cd25 ct25 oc26 kV26 dc26 pm26 cd26 ct26 oc27 kV27 dc27 pm27 cd27 ct27 : Value}
    {C_Bench : Addr} (aC_Bench : PySem.W.nsIn K mainGlobals "Bench" = some (some (.ref C_Bench)))
    (a0 : PySem.W.findIn K (.ref C_Bench) "__init__" = some (some (.ref f0))) (i0 : PySem.W.isFn K (.ref f0) = true) (l0 : K.lookup f0 = some ⟨oc0, od0, .func (PySem.W.fnOf "__init__" "Bench.__init__" (defArgs s_Bench_init) (defBody s_Bench_init) (defScope s_Bench_init) .none kV0 dc0 pm0 an0 cd0 ct0), sl0⟩) (c0 : PySem.W.codeIn K cd0 "Bench.__init__" = true) (k0 : PySem.W.keepIn K (.ref f0) = true)
    (a1 : PySem.W.findIn K (.ref C_Bench) "into" = some (some (.ref f1))) (i1 : PySem.W.isFn K (.ref f1) = true) (l1 : K.lookup f1 = some ⟨oc1, od1, .func (PySem.W.fnOf "into" "Bench.into" (defArgs s_Bench_into) (defBody s_Bench_into) (defScope s_Bench_into) .none kV1 dc1 pm1 an1 cd1 ct1), sl1⟩) (c1 : PySem.W.codeIn K cd1 "Bench.into" = true) (k1 : PySem.W.keepIn K (.ref f1) = true)
    (a2 : PySem.W.findIn K (.ref C_Bench) "box" = some (some (.ref f2))) (i2 : PySem.W.isFn K (.ref f2) = true) (l2 : K.lookup f2 = some ⟨oc2, od2, .func (PySem.W.fnOf "box" "Bench.box" (defArgs s_Bench_box) (defBody s_Bench_box) (defScope s_Bench_box) .none kV2 dc2 pm2 an2 cd2 ct2), sl2⟩) (c2 : PySem.W.codeIn K cd2 "Bench.box" = true) (k2 : PySem.W.keepIn K (.ref f2) = true)
    (a3 : PySem.W.findIn K (.ref C_Bench) "new_knot" = some (some (.ref f3))) (i3 : PySem.W.isFn K (.ref f3) = true) (l3 : K.lookup f3 = some ⟨oc3, od3, .func (PySem.W.fnOf "new_knot" "Bench.new_knot" (defArgs s_Bench_new_knot) (defBody s_Bench_new_knot) (defScope s_Bench_new_knot) .none kV3 dc3 pm3 an3 cd3 ct3), sl3⟩) (c3 : PySem.W.codeIn K cd3 "Bench.new_knot" = true) (k3 : PySem.W.keepIn K (.ref f3) = true)
    (a4 : PySem.W.findIn K (.ref C_Bench) "drive" = some (some (.ref f4))) (i4 : PySem.W.isFn K (.ref f4) = true) (l4 : K.lookup f4 = some ⟨oc4, od4, .func (PySem.W.fnOf "drive" "Bench.drive" (defArgs s_Bench_drive) (defBody s_Bench_drive) (defScope s_Bench_drive) .none kV4 dc4 pm4 an4 cd4 ct4), sl4⟩) (c4 : PySem.W.codeIn K cd4 "Bench.drive" = true) (k4 : PySem.W.keepIn K (.ref f4) = true)
    (a5 : PySem.W.findIn K (.ref C_Bench) "both" = some (some (.ref f5))) (i5 : PySem.W.isFn K (.ref f5) = true) (l5 : K.lookup f5 = some ⟨oc5, od5, .func (PySem.W.fnOf "both" "Bench.both" (defArgs s_Bench_both) (defBody s_Bench_both) (defScope s_Bench_both) .none kV5 dc5 pm5 an5 cd5 ct5), sl5⟩) (c5 : PySem.W.codeIn K cd5 "Bench.both" = true) (k5 : PySem.W.keepIn K (.ref f5) = true)
    (a6 : PySem.W.findIn K (.ref C_Bench) "either" = some (some (.ref f6))) (i6 : PySem.W.isFn K (.ref f6) = true) (l6 : K.lookup f6 = some ⟨oc6, od6, .func (PySem.W.fnOf "either" "Bench.either" (defArgs s_Bench_either) (defBody s_Bench_either) (defScope s_Bench_either) .none kV6 dc6 pm6 an6 cd6 ct6), sl6⟩) (c6 : PySem.W.codeIn K cd6 "Bench.either" = true) (k6 : PySem.W.keepIn K (.ref f6) = true)
    (a7 : PySem.W.findIn K (.ref C_Bench) "odd" = some (some (.ref f7))) (i7 : PySem.W.isFn K (.ref f7) = true) (l7 : K.lookup f7 = some ⟨oc7, od7, .func (PySem.W.fnOf "odd" "Bench.odd" (defArgs s_Bench_odd) (defBody s_Bench_odd) (defScope s_Bench_odd) .none kV7 dc7 pm7 an7 cd7 ct7), sl7⟩) (c7 : PySem.W.codeIn K cd7 "Bench.odd" = true) (k7 : PySem.W.keepIn K (.ref f7) = true)
    (a8 : PySem.W.findIn K (.ref C_Bench) "choice" = some (some (.ref f8))) (i8 : PySem.W.isFn K (.ref f8) = true) (l8 : K.lookup f8 = some ⟨oc8, od8, .func (PySem.W.fnOf "choice" "Bench.choice" (defArgs s_Bench_choice) (defBody s_Bench_choice) (defScope s_Bench_choice) .none kV8 dc8 pm8 an8 cd8 ct8), sl8⟩) (c8 : PySem.W.codeIn K cd8 "Bench.choice" = true) (k8 : PySem.W.keepIn K (.ref f8) = true)
    (a9 : PySem.W.findIn K (.ref C_Bench) "work" = some (some (.ref f9))) (i9 : PySem.W.isFn K (.ref f9) = true) (l9 : K.lookup f9 = some ⟨oc9, od9, .func (PySem.W.fnOf "work" "Bench.work" (defArgs s_Bench_work) (defBody s_Bench_work) (defScope s_Bench_work) .none kV9 dc9 pm9 an9 cd9 ct9), sl9⟩) (c9 : PySem.W.codeIn K cd9 "Bench.work" = true) (k9 : PySem.W.keepIn K (.ref f9) = true)
    (a10 : PySem.W.nsIn K mainGlobals "both_without_gate" = some (some (.ref f10))) (l10 : K.lookup f10 = some ⟨oc10, od10, .func (PySem.W.fnOf "both_without_gate" "both_without_gate" (defArgs s_both_without_gate) (defBody s_both_without_gate) (defScope s_both_without_gate) .none kV10 dc10 pm10 an10 cd10 ct10), sl10⟩) (c10 : PySem.W.codeIn K cd10 "both_without_gate" = true) (k10 : PySem.W.keepIn K (.ref f10) = true)
    (a11 : PySem.W.nsIn K mainGlobals "placed" = some (some (.ref f11))) (l11 : K.lookup f11 = some ⟨oc11, od11, .func (PySem.W.fnOf "placed" "placed" (defArgs s_placed) (defBody s_placed) (defScope s_placed) .none kV11 dc11 pm11 an11 cd11 ct11), sl11⟩) (c11 : PySem.W.codeIn K cd11 "placed" = true) (k11 : PySem.W.keepIn K (.ref f11) = true)
    (a12 : PySem.W.nsIn K mainGlobals "_law_cell_at" = some (some (.ref f12))) (l12 : K.lookup f12 = some ⟨oc12, od12, .func (PySem.W.fnOf "_law_cell_at" "_law_cell_at" (defArgs s_L_cell_at) (defBody s_L_cell_at) (defScope s_L_cell_at) .none kV12 dc12 pm12 an12 cd12 ct12), sl12⟩) (c12 : PySem.W.codeIn K cd12 "_law_cell_at" = true) (k12 : PySem.W.keepIn K (.ref f12) = true)
    (a13 : PySem.W.nsIn K mainGlobals "_law_bag" = some (some (.ref f13))) (l13 : K.lookup f13 = some ⟨oc13, od13, .func (PySem.W.fnOf "_law_bag" "_law_bag" (defArgs s_L_bag) (defBody s_L_bag) (defScope s_L_bag) .none kV13 dc13 pm13 an13 cd13 ct13), sl13⟩) (c13 : PySem.W.codeIn K cd13 "_law_bag" = true) (k13 : PySem.W.keepIn K (.ref f13) = true)
    (a14 : PySem.W.nsIn K mainGlobals "_law_take" = some (some (.ref f14))) (l14 : K.lookup f14 = some ⟨oc14, od14, .func (PySem.W.fnOf "_law_take" "_law_take" (defArgs s_L_take) (defBody s_L_take) (defScope s_L_take) .none kV14 dc14 pm14 an14 cd14 ct14), sl14⟩) (c14 : PySem.W.codeIn K cd14 "_law_take" = true) (k14 : PySem.W.keepIn K (.ref f14) = true)
    (a15 : PySem.W.nsIn K mainGlobals "_law_whole" = some (some (.ref f15))) (l15 : K.lookup f15 = some ⟨oc15, od15, .func (PySem.W.fnOf "_law_whole" "_law_whole" (defArgs s_L_whole) (defBody s_L_whole) (defScope s_L_whole) .none kV15 dc15 pm15 an15 cd15 ct15), sl15⟩) (c15 : PySem.W.codeIn K cd15 "_law_whole" = true) (k15 : PySem.W.keepIn K (.ref f15) = true)
    (a16 : PySem.W.nsIn K mainGlobals "_law_ends" = some (some (.ref f16))) (l16 : K.lookup f16 = some ⟨oc16, od16, .func (PySem.W.fnOf "_law_ends" "_law_ends" (defArgs s_L_ends) (defBody s_L_ends) (defScope s_L_ends) .none kV16 dc16 pm16 an16 cd16 ct16), sl16⟩) (c16 : PySem.W.codeIn K cd16 "_law_ends" = true) (k16 : PySem.W.keepIn K (.ref f16) = true)
    (a17 : PySem.W.nsIn K mainGlobals "_law_formed" = some (some (.ref f17))) (l17 : K.lookup f17 = some ⟨oc17, od17, .func (PySem.W.fnOf "_law_formed" "_law_formed" (defArgs s_L_formed) (defBody s_L_formed) (defScope s_L_formed) .none kV17 dc17 pm17 an17 cd17 ct17), sl17⟩) (c17 : PySem.W.codeIn K cd17 "_law_formed" = true) (k17 : PySem.W.keepIn K (.ref f17) = true)
    (a18 : PySem.W.nsIn K mainGlobals "_law_side" = some (some (.ref f18))) (l18 : K.lookup f18 = some ⟨oc18, od18, .func (PySem.W.fnOf "_law_side" "_law_side" (defArgs s_L_side) (defBody s_L_side) (defScope s_L_side) .none kV18 dc18 pm18 an18 cd18 ct18), sl18⟩) (c18 : PySem.W.codeIn K cd18 "_law_side" = true) (k18 : PySem.W.keepIn K (.ref f18) = true)
    (a19 : PySem.W.nsIn K mainGlobals "_law_beat" = some (some (.ref f19))) (l19 : K.lookup f19 = some ⟨oc19, od19, .func (PySem.W.fnOf "_law_beat" "_law_beat" (defArgs s_L_beat) (defBody s_L_beat) (defScope s_L_beat) .none kV19 dc19 pm19 an19 cd19 ct19), sl19⟩) (c19 : PySem.W.codeIn K cd19 "_law_beat" = true) (k19 : PySem.W.keepIn K (.ref f19) = true)
    (a20 : PySem.W.nsIn K mainGlobals "_law_pick" = some (some (.ref f20))) (l20 : K.lookup f20 = some ⟨oc20, od20, .func (PySem.W.fnOf "_law_pick" "_law_pick" (defArgs s_L_pick) (defBody s_L_pick) (defScope s_L_pick) .none kV20 dc20 pm20 an20 cd20 ct20), sl20⟩) (c20 : PySem.W.codeIn K cd20 "_law_pick" = true) (k20 : PySem.W.keepIn K (.ref f20) = true)
    (a21 : PySem.W.nsIn K mainGlobals "_law_end" = some (some (.ref f21))) (l21 : K.lookup f21 = some ⟨oc21, od21, .func (PySem.W.fnOf "_law_end" "_law_end" (defArgs s_L_end) (defBody s_L_end) (defScope s_L_end) .none kV21 dc21 pm21 an21 cd21 ct21), sl21⟩) (c21 : PySem.W.codeIn K cd21 "_law_end" = true) (k21 : PySem.W.keepIn K (.ref f21) = true)
    (a22 : PySem.W.nsIn K mainGlobals "_law_told" = some (some (.ref f22))) (l22 : K.lookup f22 = some ⟨oc22, od22, .func (PySem.W.fnOf "_law_told" "_law_told" (defArgs s_L_told) (defBody s_L_told) (defScope s_L_told) .none kV22 dc22 pm22 an22 cd22 ct22), sl22⟩) (c22 : PySem.W.codeIn K cd22 "_law_told" = true) (k22 : PySem.W.keepIn K (.ref f22) = true)
    (a23 : PySem.W.nsIn K mainGlobals "_law_worth" = some (some (.ref f23))) (l23 : K.lookup f23 = some ⟨oc23, od23, .func (PySem.W.fnOf "_law_worth" "_law_worth" (defArgs s_L_worth) (defBody s_L_worth) (defScope s_L_worth) .none kV23 dc23 pm23 an23 cd23 ct23), sl23⟩) (c23 : PySem.W.codeIn K cd23 "_law_worth" = true) (k23 : PySem.W.keepIn K (.ref f23) = true)
    (a24 : PySem.W.nsIn K mainGlobals "_law_due" = some (some (.ref f24))) (l24 : K.lookup f24 = some ⟨oc24, od24, .func (PySem.W.fnOf "_law_due" "_law_due" (defArgs s_L_due) (defBody s_L_due) (defScope s_L_due) .none kV24 dc24 pm24 an24 cd24 ct24), sl24⟩) (c24 : PySem.W.codeIn K cd24 "_law_due" = true) (k24 : PySem.W.keepIn K (.ref f24) = true)
    (a25 : PySem.W.nsIn K mainGlobals "_law_deeds" = some (some (.ref f25))) (l25 : K.lookup f25 = some ⟨oc25, od25, .func (PySem.W.fnOf "_law_deeds" "_law_deeds" (defArgs s_L_deeds) (defBody s_L_deeds) (defScope s_L_deeds) .none kV25 dc25 pm25 an25 cd25 ct25), sl25⟩) (c25 : PySem.W.codeIn K cd25 "_law_deeds" = true) (k25 : PySem.W.keepIn K (.ref f25) = true)
    (a26 : PySem.W.nsIn K mainGlobals "_law_runs" = some (some (.ref f26))) (l26 : K.lookup f26 = some ⟨oc26, od26, .func (PySem.W.fnOf "_law_runs" "_law_runs" (defArgs s_L_runs) (defBody s_L_runs) (defScope s_L_runs) .none kV26 dc26 pm26 an26 cd26 ct26), sl26⟩) (c26 : PySem.W.codeIn K cd26 "_law_runs" = true) (k26 : PySem.W.keepIn K (.ref f26) = true)
    (a27 : PySem.W.nsIn K mainGlobals "law" = some (some (.ref f27))) (l27 : K.lookup f27 = some ⟨oc27, od27, .func (PySem.W.fnOf "law" "law" (defArgs s_law) (defBody s_law) (defScope s_law) .none kV27 dc27 pm27 an27 cd27 ct27), sl27⟩) (c27 : PySem.W.codeIn K cd27 "law" = true) (k27 : PySem.W.keepIn K (.ref f27) = true)
    (z0 : PySem.W.nsIn K mainGlobals "all" = some none)
    (z1 : PySem.W.nsIn K mainGlobals "bool" = some none)
    (z2 : PySem.W.nsIn K mainGlobals "enumerate" = some none)
    (z3 : PySem.W.nsIn K mainGlobals "int" = some none)
    (z4 : PySem.W.nsIn K mainGlobals "isinstance" = some none)
    (z5 : PySem.W.nsIn K mainGlobals "len" = some none)
    (z6 : PySem.W.nsIn K mainGlobals "list" = some none)
    (z7 : PySem.W.nsIn K mainGlobals "max" = some none)
    (z8 : PySem.W.nsIn K mainGlobals "min" = some none)
    (z9 : PySem.W.nsIn K mainGlobals "range" = some none)
    (z10 : PySem.W.nsIn K mainGlobals "tuple" = some none)
    (z11 : PySem.W.nsIn K mainGlobals "zip" = some none)
    (pg_Bench : PySem.W.plainGet K C_Bench Str.empty = true) (hd_Bench : PySem.W.hasDictIn K C_Bench = true) (po_Bench : PySem.W.plainOver K C_Bench = true) (sa_Bench : PySem.W.findIn K (.ref C_Bench) "__setattr__" = some (some (.builtin "object.__setattr__"))) (mk_Bench : PySem.W.makesIn K C_Bench = true) (kc_Bench : PySem.W.keepIn K (.ref C_Bench) = true)
    (n_Bench_ins : PySem.W.findIn K (.ref C_Bench) "ins" = some none)
    (n_Bench_knots : PySem.W.findIn K (.ref C_Bench) "knots" = some none)
    (n_Bench_firsts : PySem.W.findIn K (.ref C_Bench) "firsts" = some none)
    (n_Bench_box_knots : PySem.W.findIn K (.ref C_Bench) "box_knots" = some none)
    (n_Bench_drivers : PySem.W.findIn K (.ref C_Bench) "drivers" = some none)
    (n_Bench_gates : PySem.W.findIn K (.ref C_Bench) "gates" = some none)
    (n_Bench_gate_knots : PySem.W.findIn K (.ref C_Bench) "gate_knots" = some none)
    (n_Bench_known_gates : PySem.W.findIn K (.ref C_Bench) "known_gates" = some none)
    : ∃ A : Ad, A.a_law = fa ∧ (∀ (s : Shared) (v : Value), BindsTo s A.d_law ⟨[v], []⟩ [("_law_script", v)]) ∧ Tx w K mg A := by
  have e := hfa.symm.trans (PySem.W.mg_of X G a27)
  cases e
  have F0 := fun_mk (st := s_Bench_init) l0 c0 k0
  have F1 := fun_mk (st := s_Bench_into) l1 c1 k1
  have F2 := fun_mk (st := s_Bench_box) l2 c2 k2
  have F3 := fun_mk (st := s_Bench_new_knot) l3 c3 k3
  have F4 := fun_mk (st := s_Bench_drive) l4 c4 k4
  have F5 := fun_mk (st := s_Bench_both) l5 c5 k5
  have F6 := fun_mk (st := s_Bench_either) l6 c6 k6
  have F7 := fun_mk (st := s_Bench_odd) l7 c7 k7
  have F8 := fun_mk (st := s_Bench_choice) l8 c8 k8
  have F9 := fun_mk (st := s_Bench_work) l9 c9 k9
  have F10 := fun_mk (st := s_both_without_gate) l10 c10 k10
  have F11 := fun_mk (st := s_placed) l11 c11 k11
  have F12 := fun_mk (st := s_L_cell_at) l12 c12 k12
  have F13 := fun_mk (st := s_L_bag) l13 c13 k13
  have F14 := fun_mk (st := s_L_take) l14 c14 k14
  have F15 := fun_mk (st := s_L_whole) l15 c15 k15
  have F16 := fun_mk (st := s_L_ends) l16 c16 k16
  have F17 := fun_mk (st := s_L_formed) l17 c17 k17
  have F18 := fun_mk (st := s_L_side) l18 c18 k18
  have F19 := fun_mk (st := s_L_beat) l19 c19 k19
  have F20 := fun_mk (st := s_L_pick) l20 c20 k20
  have F21 := fun_mk (st := s_L_end) l21 c21 k21
  have F22 := fun_mk (st := s_L_told) l22 c22 k22
  have F23 := fun_mk (st := s_L_worth) l23 c23 k23
  have F24 := fun_mk (st := s_L_due) l24 c24 k24
  have F25 := fun_mk (st := s_L_deeds) l25 c25 k25
  have F26 := fun_mk (st := s_L_runs) l26 c26 k26
  have F27 := fun_mk (st := s_law) l27 c27 k27
  refine ⟨⟨f0, PySem.W.fnOf "__init__" "Bench.__init__" (defArgs s_Bench_init) (defBody s_Bench_init) (defScope s_Bench_init) .none kV0 dc0 pm0 an0 cd0 ct0, f1, PySem.W.fnOf "into" "Bench.into" (defArgs s_Bench_into) (defBody s_Bench_into) (defScope s_Bench_into) .none kV1 dc1 pm1 an1 cd1 ct1, f2, PySem.W.fnOf "box" "Bench.box" (defArgs s_Bench_box) (defBody s_Bench_box) (defScope s_Bench_box) .none kV2 dc2 pm2 an2 cd2 ct2, f3, PySem.W.fnOf "new_knot" "Bench.new_knot" (defArgs s_Bench_new_knot) (defBody s_Bench_new_knot) (defScope s_Bench_new_knot) .none kV3 dc3 pm3 an3 cd3 ct3, f4, PySem.W.fnOf "drive" "Bench.drive" (defArgs s_Bench_drive) (defBody s_Bench_drive) (defScope s_Bench_drive) .none kV4 dc4 pm4 an4 cd4 ct4, f5, PySem.W.fnOf "both" "Bench.both" (defArgs s_Bench_both) (defBody s_Bench_both) (defScope s_Bench_both) .none kV5 dc5 pm5 an5 cd5 ct5, f6, PySem.W.fnOf "either" "Bench.either" (defArgs s_Bench_either) (defBody s_Bench_either) (defScope s_Bench_either) .none kV6 dc6 pm6 an6 cd6 ct6, f7, PySem.W.fnOf "odd" "Bench.odd" (defArgs s_Bench_odd) (defBody s_Bench_odd) (defScope s_Bench_odd) .none kV7 dc7 pm7 an7 cd7 ct7, f8, PySem.W.fnOf "choice" "Bench.choice" (defArgs s_Bench_choice) (defBody s_Bench_choice) (defScope s_Bench_choice) .none kV8 dc8 pm8 an8 cd8 ct8, f9, PySem.W.fnOf "work" "Bench.work" (defArgs s_Bench_work) (defBody s_Bench_work) (defScope s_Bench_work) .none kV9 dc9 pm9 an9 cd9 ct9, f10, PySem.W.fnOf "both_without_gate" "both_without_gate" (defArgs s_both_without_gate) (defBody s_both_without_gate) (defScope s_both_without_gate) .none kV10 dc10 pm10 an10 cd10 ct10, f11, PySem.W.fnOf "placed" "placed" (defArgs s_placed) (defBody s_placed) (defScope s_placed) .none kV11 dc11 pm11 an11 cd11 ct11, f12, PySem.W.fnOf "_law_cell_at" "_law_cell_at" (defArgs s_L_cell_at) (defBody s_L_cell_at) (defScope s_L_cell_at) .none kV12 dc12 pm12 an12 cd12 ct12, f13, PySem.W.fnOf "_law_bag" "_law_bag" (defArgs s_L_bag) (defBody s_L_bag) (defScope s_L_bag) .none kV13 dc13 pm13 an13 cd13 ct13, f14, PySem.W.fnOf "_law_take" "_law_take" (defArgs s_L_take) (defBody s_L_take) (defScope s_L_take) .none kV14 dc14 pm14 an14 cd14 ct14, f15, PySem.W.fnOf "_law_whole" "_law_whole" (defArgs s_L_whole) (defBody s_L_whole) (defScope s_L_whole) .none kV15 dc15 pm15 an15 cd15 ct15, f16, PySem.W.fnOf "_law_ends" "_law_ends" (defArgs s_L_ends) (defBody s_L_ends) (defScope s_L_ends) .none kV16 dc16 pm16 an16 cd16 ct16, f17, PySem.W.fnOf "_law_formed" "_law_formed" (defArgs s_L_formed) (defBody s_L_formed) (defScope s_L_formed) .none kV17 dc17 pm17 an17 cd17 ct17, f18, PySem.W.fnOf "_law_side" "_law_side" (defArgs s_L_side) (defBody s_L_side) (defScope s_L_side) .none kV18 dc18 pm18 an18 cd18 ct18, f19, PySem.W.fnOf "_law_beat" "_law_beat" (defArgs s_L_beat) (defBody s_L_beat) (defScope s_L_beat) .none kV19 dc19 pm19 an19 cd19 ct19, f20, PySem.W.fnOf "_law_pick" "_law_pick" (defArgs s_L_pick) (defBody s_L_pick) (defScope s_L_pick) .none kV20 dc20 pm20 an20 cd20 ct20, f21, PySem.W.fnOf "_law_end" "_law_end" (defArgs s_L_end) (defBody s_L_end) (defScope s_L_end) .none kV21 dc21 pm21 an21 cd21 ct21, f22, PySem.W.fnOf "_law_told" "_law_told" (defArgs s_L_told) (defBody s_L_told) (defScope s_L_told) .none kV22 dc22 pm22 an22 cd22 ct22, f23, PySem.W.fnOf "_law_worth" "_law_worth" (defArgs s_L_worth) (defBody s_L_worth) (defScope s_L_worth) .none kV23 dc23 pm23 an23 cd23 ct23, f24, PySem.W.fnOf "_law_due" "_law_due" (defArgs s_L_due) (defBody s_L_due) (defScope s_L_due) .none kV24 dc24 pm24 an24 cd24 ct24, f25, PySem.W.fnOf "_law_deeds" "_law_deeds" (defArgs s_L_deeds) (defBody s_L_deeds) (defScope s_L_deeds) .none kV25 dc25 pm25 an25 cd25 ct25, f26, PySem.W.fnOf "_law_runs" "_law_runs" (defArgs s_L_runs) (defBody s_L_runs) (defScope s_L_runs) .none kV26 dc26 pm26 an26 cd26 ct26, fa, PySem.W.fnOf "law" "law" (defArgs s_law) (defBody s_law) (defScope s_law) .none kV27 dc27 pm27 an27 cd27 ct27, C_Bench⟩, rfl, fun s v => .of_eq rfl, ?_⟩
  exact ⟨PySem.W.mg_none_of X G z0, PySem.W.mg_none_of X G z1, PySem.W.mg_none_of X G z2, PySem.W.mg_none_of X G z3, PySem.W.mg_none_of X G z4, PySem.W.mg_none_of X G z5, PySem.W.mg_none_of X G z6, PySem.W.mg_none_of X G z7, PySem.W.mg_none_of X G z8, PySem.W.mg_none_of X G z9, PySem.W.mg_none_of X G z10, PySem.W.mg_none_of X G z11, F0, F0.binds fun _ _ _ _ _ _ us hl => of_len2 (fun _ _ => rfl) us hl, ⟨mk_Bench, a0, i0, kc_Bench⟩, F1, F1.binds fun _ _ _ _ _ _ us hl => of_len2 (fun _ _ => rfl) us hl, ⟨a1, i1, k1⟩, F2, F2.binds fun _ _ _ _ _ _ us hl => of_len2 (fun _ _ => rfl) us hl, ⟨a2, i2, k2⟩, F3, F3.binds fun _ _ _ _ _ _ us hl => of_len1 (fun _ => rfl) us hl, ⟨a3, i3, k3⟩, F4, F4.binds fun _ _ _ _ _ _ us hl => of_len3 (fun _ _ _ => rfl) us hl, ⟨a4, i4, k4⟩, F5, F5.binds fun _ _ _ _ _ _ us hl => of_len3 (fun _ _ _ => rfl) us hl, ⟨a5, i5, k5⟩, F6, F6.binds fun _ _ _ _ _ _ us hl => of_len3 (fun _ _ _ => rfl) us hl, ⟨a6, i6, k6⟩, F7, F7.binds fun _ _ _ _ _ _ us hl => of_len3 (fun _ _ _ => rfl) us hl, ⟨a7, i7, k7⟩, F8, F8.binds fun _ _ _ _ _ _ us hl => of_len4 (fun _ _ _ _ => rfl) us hl, ⟨a8, i8, k8⟩, F9, F9.binds fun _ _ _ _ _ _ us hl => of_len2 (fun _ _ => rfl) us hl, ⟨a9, i9, k9⟩, F10, F10.binds fun _ _ _ _ _ _ us hl => of_len2 (fun _ _ => rfl) us hl, PySem.W.mg_of X G a10, F11, F11.binds fun _ _ _ _ _ _ us hl => of_len2 (fun _ _ => rfl) us hl, PySem.W.mg_of X G a11, F12, F12.binds fun _ _ _ _ _ _ us hl => of_len2 (fun _ _ => rfl) us hl, PySem.W.mg_of X G a12, F13, F13.binds fun _ _ _ _ _ _ us hl => of_len2 (fun _ _ => rfl) us hl, PySem.W.mg_of X G a13, F14, F14.binds fun _ _ _ _ _ _ us hl => of_len2 (fun _ _ => rfl) us hl, PySem.W.mg_of X G a14, F15, F15.binds fun _ _ _ _ _ _ us hl => of_len1 (fun _ => rfl) us hl, PySem.W.mg_of X G a15, F16, F16.binds fun _ _ _ _ _ _ us hl => of_len2 (fun _ _ => rfl) us hl, PySem.W.mg_of X G a16, F17, F17.binds fun _ _ _ _ _ _ us hl => of_len4 (fun _ _ _ _ => rfl) us hl, PySem.W.mg_of X G a17, F18, F18.binds fun _ _ _ _ _ _ us hl => of_len3 (fun _ _ _ => rfl) us hl, PySem.W.mg_of X G a18, F19, F19.binds fun _ _ _ _ _ _ us hl => of_len4 (fun _ _ _ _ => rfl) us hl, PySem.W.mg_of X G a19, F20, F20.binds fun _ _ _ _ _ _ us hl => of_len2 (fun _ _ => rfl) us hl, PySem.W.mg_of X G a20, F21, F21.binds fun _ _ _ _ _ _ us hl => of_len2 (fun _ _ => rfl) us hl, PySem.W.mg_of X G a21, F22, F22.binds fun _ _ _ _ _ _ us hl => of_len3 (fun _ _ _ => rfl) us hl, PySem.W.mg_of X G a22, F23, F23.binds fun _ _ _ _ _ _ us hl => of_len3 (fun _ _ _ => rfl) us hl, PySem.W.mg_of X G a23, F24, F24.binds fun _ _ _ _ _ _ us hl => of_len4 (fun _ _ _ _ => rfl) us hl, PySem.W.mg_of X G a24, F25, F25.binds fun _ _ _ _ _ _ us hl => of_len3 (fun _ _ _ => rfl) us hl, PySem.W.mg_of X G a25, F26, F26.binds fun _ _ _ _ _ _ us hl => of_len6 (fun _ _ _ _ _ _ => rfl) us hl, PySem.W.mg_of X G a26, F27, F27.binds fun _ _ _ _ _ _ us hl => of_len1 (fun _ => rfl) us hl, PySem.W.mg_of X G a27, ⟨pg_Bench, hd_Bench, po_Bench, sa_Bench⟩, PySem.W.mg_of X G aC_Bench, n_Bench_ins, n_Bench_knots, n_Bench_firsts, n_Bench_box_knots, n_Bench_drivers, n_Bench_gates, n_Bench_gate_knots, n_Bench_known_gates⟩
theorem walk {l : PySem.W.OpenLaw} {q : Program} {loose : List Str} {XP : (Str → Option Value) → Heap → Prop} {YP : World → Heap → Prop} {d : DefRec} {K : Params → PySem.W.Frag} (hn : l.most = some 63) (hdf : d.params.defaults = []) (hnm : d.name = "law")
    (hY : ∀ (w : World) (h : Heap), YP w h → (K w.params).In h)
    (F : ∀ (w : World) (mg : Str → Option Value) (fa : Addr) (h : Heap), (K w.params).In h → h.Ns mainGlobals mg → mg "law" = some (.ref fa) →
      ∃ A : Ad, A.a_law = fa ∧ (∀ (s : Shared) (v : Value), BindsTo s A.d_law ⟨[v], []⟩ [("_law_script", v)]) ∧ Tx w (K w.params) mg A) :
    PySem.W.WalkO q loose XP YP l.row.toRowW d [] (fun f vs => PySem.call f vs) := by
  refine L2.walk_of (n := 63) (k := 6) (x := "_law_script") (CX := fun _ => CX0) (sp := fun w => sp_law (K w.params)) hn (by decide) hdf ⟨rfl, by decide, by decide⟩ hY (fun w mg fa h k1 k2 k3 => ?_) (fun _ _ a ns hl _ hS => ⟨a, ns, rfl, hS, hl, fun _ => rfl⟩) fun _ _ _ _ _ z => z
  obtain ⟨A, rfl, hb, T⟩ := F w mg fa h k1 k2 (by rw [← hnm]; exact k3)
  exact ⟨A.d_law, hb, fun base _ _ => all_ok T⟩
end K26
open PySem PySem.W PyProof.Rows
set_option maxRecDepth 100000 in
set_option maxHeartbeats 0 in
theorem PySem.Challenge.cw_lampforge_k26_boxes_on_a_bench_holds : PySem.Challenge.rw_lampforge_k26_boxes_on_a_bench.Holds := by
  w_on; o_law; k_head; (case hw => w_witness2)
  k_fill
  refine K26.walk (l := PySem.Challenge.rw_lampforge_k26_boxes_on_a_bench) rfl rfl rfl (fun w h Y => PySem.W.kIn_of Y) ?F
  case F =>
    intro w mg fa h KX G hmg
    refine' K26.all_mk KX G hmg ?aC_Bench ?a0 ?i0 ?l0 ?c0 ?k0 ?a1 ?i1 ?l1 ?c1 ?k1 ?a2 ?i2 ?l2 ?c2 ?k2 ?a3 ?i3 ?l3 ?c3 ?k3 ?a4 ?i4 ?l4 ?c4 ?k4 ?a5 ?i5 ?l5 ?c5 ?k5 ?a6 ?i6 ?l6 ?c6 ?k6 ?a7 ?i7 ?l7 ?c7 ?k7 ?a8 ?i8 ?l8 ?c8 ?k8 ?a9 ?i9 ?l9 ?c9 ?k9 ?a10 ?l10 ?c10 ?k10 ?a11 ?l11 ?c11 ?k11 ?a12 ?l12 ?c12 ?k12 ?a13 ?l13 ?c13 ?k13 ?a14 ?l14 ?c14 ?k14 ?a15 ?l15 ?c15 ?k15 ?a16 ?l16 ?c16 ?k16 ?a17 ?l17 ?c17 ?k17 ?a18 ?l18 ?c18 ?k18 ?a19 ?l19 ?c19 ?k19 ?a20 ?l20 ?c20 ?k20 ?a21 ?l21 ?c21 ?k21 ?a22 ?l22 ?c22 ?k22 ?a23 ?l23 ?c23 ?k23 ?a24 ?l24 ?c24 ?k24 ?a25 ?l25 ?c25 ?k25 ?a26 ?l26 ?c26 ?k26 ?a27 ?l27 ?c27 ?k27 ?z0 ?z1 ?z2 ?z3 ?z4 ?z5 ?z6 ?z7 ?z8 ?z9 ?z10 ?z11 ?pg_Bench ?hd_Bench ?po_Bench ?sa_Bench ?mk_Bench ?kc_Bench ?n_Bench_ins ?n_Bench_knots ?n_Bench_firsts ?n_Bench_box_knots ?n_Bench_drivers ?n_Bench_gates ?n_Bench_gate_knots ?n_Bench_known_gates
    (case aC_Bench => k_is)
    (case a0 => k_is)
    (case i0 => k_is)
    (case l0 => k_is)
    (case c0 => k_is)
    (case k0 => k_is)
    (case a1 => k_is)
    (case i1 => k_is)
    (case l1 => k_is)
    (case c1 => k_is)
    (case k1 => k_is)
    (case a2 => k_is)
    (case i2 => k_is)
    (case l2 => k_is)
    (case c2 => k_is)
    (case k2 => k_is)
    (case a3 => k_is)
    (case i3 => k_is)
    (case l3 => k_is)
    (case c3 => k_is)
    (case k3 => k_is)
    (case a4 => k_is)
    (case i4 => k_is)
    (case l4 => k_is)
    (case c4 => k_is)
    (case k4 => k_is)
    (case a5 => k_is)
    (case i5 => k_is)
    (case l5 => k_is)
    (case c5 => k_is)
    (case k5 => k_is)
    (case a6 => k_is)
    (case i6 => k_is)
    (case l6 => k_is)
    (case c6 => k_is)
    (case k6 => k_is)
    (case a7 => k_is)
    (case i7 => k_is)
    (case l7 => k_is)
    (case c7 => k_is)
    (case k7 => k_is)
    (case a8 => k_is)
    (case i8 => k_is)
    (case l8 => k_is)
    (case c8 => k_is)
    (case k8 => k_is)
    (case a9 => k_is)
    (case i9 => k_is)
    (case l9 => k_is)
    (case c9 => k_is)
    (case k9 => k_is)
    (case a10 => k_is)
    (case l10 => k_is)
    (case c10 => k_is)
    (case k10 => k_is)
    (case a11 => k_is)
    (case l11 => k_is)
    (case c11 => k_is)
    (case k11 => k_is)
    (case a12 => k_is)
    (case l12 => k_is)
    (case c12 => k_is)
    (case k12 => k_is)
    (case a13 => k_is)
    (case l13 => k_is)
    (case c13 => k_is)
    (case k13 => k_is)
    (case a14 => k_is)
    (case l14 => k_is)
    (case c14 => k_is)
    (case k14 => k_is)
    (case a15 => k_is)
    (case l15 => k_is)
    (case c15 => k_is)
    (case k15 => k_is)
    (case a16 => k_is)
    (case l16 => k_is)
    (case c16 => k_is)
    (case k16 => k_is)
    (case a17 => k_is)
    (case l17 => k_is)
    (case c17 => k_is)
    (case k17 => k_is)
    (case a18 => k_is)
    (case l18 => k_is)
    (case c18 => k_is)
    (case k18 => k_is)
    (case a19 => k_is)
    (case l19 => k_is)
    (case c19 => k_is)
    (case k19 => k_is)
    (case a20 => k_is)
    (case l20 => k_is)
    (case c20 => k_is)
    (case k20 => k_is)
    (case a21 => k_is)
    (case l21 => k_is)
    (case c21 => k_is)
    (case k21 => k_is)
    (case a22 => k_is)
    (case l22 => k_is)
    (case c22 => k_is)
    (case k22 => k_is)
    (case a23 => k_is)
    (case l23 => k_is)
    (case c23 => k_is)
    (case k23 => k_is)
    (case a24 => k_is)
    (case l24 => k_is)
    (case c24 => k_is)
    (case k24 => k_is)
    (case a25 => k_is)
    (case l25 => k_is)
    (case c25 => k_is)
    (case k25 => k_is)
    (case a26 => k_is)
    (case l26 => k_is)
    (case c26 => k_is)
    (case k26 => k_is)
    (case a27 => k_is)
    (case l27 => k_is)
    (case c27 => k_is)
    (case k27 => k_is)
    (case z0 => k_is)
    (case z1 => k_is)
    (case z2 => k_is)
    (case z3 => k_is)
    (case z4 => k_is)
    (case z5 => k_is)
    (case z6 => k_is)
    (case z7 => k_is)
    (case z8 => k_is)
    (case z9 => k_is)
    (case z10 => k_is)
    (case z11 => k_is)
    (case pg_Bench => k_is)
    (case hd_Bench => k_is)
    (case po_Bench => k_is)
    (case sa_Bench => k_is)
    (case mk_Bench => k_is)
    (case kc_Bench => k_is)
    (case n_Bench_ins => k_is)
    (case n_Bench_knots => k_is)
    (case n_Bench_firsts => k_is)
    (case n_Bench_box_knots => k_is)
    (case n_Bench_drivers => k_is)
    (case n_Bench_gates => k_is)
    (case n_Bench_gate_knots => k_is)
    (case n_Bench_known_gates => k_is)

