import PyProof.Rows.All
import Wide.All
import OpenK.AllK
import Wide.FinOn
import Lean
import PyProof.EqAt
import PyProof.EqKinds
import PyProof.TupleCall
import KE.BitLaws
import PySem.Challenge.RW_lampforge_k05_worths
set_option Elab.async false
set_option linter.all false
set_option maxRecDepth 100000
/-! THE HAND LAYER, for ints, bools, texts, own classes, LISTS and tuples (index, slices, in, append, pop ..), calls, loops. Paste it whole ahead of your own text; what your proof does not reach may be deleted. -/
namespace L2
open PySem PySem.Spec PyProof.Rows

/-- a key: an int or a str -/
abbrev Key := Sum Int Str
def keyIs : Key → Value → Bool
  | .inl k, v => Value.isInt k v
  | .inr x, v => Value.isStrOf x v
def keyH (w : World) : Key → Int
  | .inl k => hashInt k
  | .inr x => hashStr w x
theorem keyIs_shape : ∀ {k : Key} {v : Value}, keyIs k v = true → (∃ i t, k = Sum.inl i ∧ v = Value.int i t) ∨ (∃ x t, k = Sum.inr x ∧ v = Value.str x t)
  | .inl i, v, h => by
    obtain ⟨t, e⟩ := Value.isInt_shape (k := i) (v := v) h
    exact .inl ⟨i, t, rfl, e⟩
  | .inr x, v, h => by
    obtain ⟨t, e⟩ := Value.isStrOf_shape (x := x) (v := v) h
    exact .inr ⟨x, t, rfl, e⟩
theorem keyIs_int (i : Int) (t : Tok) : keyIs (.inl i) (.int i t) = true := by simp [keyIs, Value.isInt]
theorem keyIs_str (x : Str) (t : Tok) : keyIs (.inr x) (.str x t) = true := by simp [keyIs, Value.isStrOf]
theorem key_ll (a b : Int) : decide ((Sum.inl a : Key) = Sum.inl b) = (a == b) := by
  by_cases e : a = b
  · subst e; simp
  · have h : ¬ (Sum.inl a : Key) = Sum.inl b := fun q => e (Sum.inl.inj q)
    rw [decide_eq_false h]
    exact (beq_eq_false_iff_ne.mpr e).symm
theorem key_rr (a b : Str) : decide ((Sum.inr a : Key) = Sum.inr b) = decide (a = b) := by
  by_cases e : a = b
  · subst e; simp
  · have h : ¬ (Sum.inr a : Key) = Sum.inr b := fun q => e (Sum.inr.inj q)
    rw [decide_eq_false h, decide_eq_false e]
theorem key_lr (a : Int) (b : Str) : decide ((Sum.inl a : Key) = Sum.inr b) = false := decide_eq_false (fun q => nomatch q)
theorem key_rl (a : Str) (b : Int) : decide ((Sum.inr a : Key) = Sum.inl b) = false := decide_eq_false (fun q => nomatch q)

def mixKind (prog : Program) (w : World) : PySem.KeyKind prog w Key where
  is := keyIs
  hash := keyH w
  inj := fun v a b ha hb => by
    rcases keyIs_shape ha with ⟨i, t, rfl, rfl⟩ | ⟨x, t, rfl, rfl⟩
    · rcases keyIs_shape hb with ⟨j, u, rfl, e⟩ | ⟨y, u, rfl, e⟩
      · injection e with e1 _; rw [e1]
      · exact nomatch e
    · rcases keyIs_shape hb with ⟨j, u, rfl, e⟩ | ⟨y, u, rfl, e⟩
      · exact nomatch e
      · injection e with e1 _; rw [e1]
  byValue := fun k v h => by
    rcases keyIs_shape h with ⟨i, t, rfl, rfl⟩ | ⟨x, t, rfl, rfl⟩ <;> rfl
  pyHash := fun hv h => by
    rcases keyIs_shape hv with ⟨i, t, rfl, rfl⟩ | ⟨x, t, rfl, rfl⟩
    · exact wpAny_pyHash_int h
    · exact wpAny_pyHash_str h
  eqBool := fun hu hv h => by
    rcases keyIs_shape hu with ⟨i, t, rfl, rfl⟩ | ⟨x, t, rfl, rfl⟩
    · rcases keyIs_shape hv with ⟨j, u, rfl, rfl⟩ | ⟨y, u, rfl, rfl⟩
      · rw [key_ll] at h; exact wpAny_eqBool_int h
      · rw [key_lr] at h; exact SeqAt.EqAt.int_str i t y u _ _ _ _ h
    · rcases keyIs_shape hv with ⟨j, u, rfl, rfl⟩ | ⟨y, u, rfl, rfl⟩
      · rw [key_rl] at h; exact SeqAt.EqAt.str_int x t j u _ _ _ _ h
      · rw [key_rr] at h; exact wpAny_eqBool_str h
  «strs» := fun k x t v h => by
    rcases keyIs_shape h with ⟨i, u, rfl, e⟩ | ⟨y, u, rfl, e⟩
    · exact nomatch e
    · injection e with e1 _
      subst e1
      cases v <;> rfl

theorem mixKind_int (prog : Program) (w : World) (i : Int) (t : Tok) : (mixKind prog w).is (.inl i) (.int i t) = true := keyIs_int i t
theorem mixKind_str (prog : Program) (w : World) (x : Str) (t : Tok) : (mixKind prog w).is (.inr x) (.str x t) = true := keyIs_str x t
end L2

namespace L2
open PySem PySem.Spec PyProof.Rows

/-- a value, without the heap -/
inductive V where
  | non | bl (b : Bool) | int (i : Int) | str (x : Str) | byt (b : Array UInt8) | flt (b : UInt64) | ref (a : Addr) | ty (n : String)
  deriving DecidableEq

def RelV : V → Value → Prop
  | .non, u => u = Value.none
  | .bl b, u => u = Value.bool b
  | .int i, u => ∃ t, u = Value.int i t
  | .str x, u => ∃ t, u = Value.str x t
  | .byt b, u => ∃ t, u = Value.bytes b t
  | .flt b, u => ∃ t, u = Value.float b t
  | .ref a, u => u = Value.ref a
  | .ty n, u => u = Value.type n

abbrev Vals : List V → List Value → Prop := Paired RelV
theorem Vals.length {xs : List V} {us : List Value} (r : Vals xs us) : xs.length = us.length := Paired.length r
theorem Vals.get : ∀ {xs : List V} {us : List Value} {i : Nat} {x : V}, Vals xs us → xs[i]? = some x → ∃ u, us[i]? = some u ∧ RelV x u
  | _, _, _, _, .nil, e => by simp at e
  | _, _, 0, _, .cons r _, e => by simp at e; subst e; exact ⟨_, rfl, r⟩
  | _, _, i + 1, x, .cons _ t, e => by
    obtain ⟨u, h1, h2⟩ := Vals.get (i := i) (x := x) t (by simpa using e)
    exact ⟨u, by simpa using h1, h2⟩
theorem Vals.set {x : V} {u : Value} (r : RelV x u) : ∀ {xs : List V} {us : List Value} (i : Nat), Vals xs us → Vals (xs.set i x) (us.set i u)
  | _, _, _, .nil => .nil
  | _, _, 0, .cons _ t => .cons r t
  | _, _, i + 1, .cons q t => .cons q (Vals.set r i t)
theorem Vals.append : ∀ {xs ys : List V} {us ws : List Value}, Vals xs us → Vals ys ws → Vals (xs ++ ys) (us ++ ws)
  | _, _, _, _, .nil, s => s
  | _, _, _, _, .cons r t, s => .cons r (Vals.append t s)
theorem Vals.take : ∀ {xs : List V} {us : List Value} (n : Nat), Vals xs us → Vals (xs.take n) (us.take n)
  | _, _, 0, _ => .nil
  | _, _, _ + 1, .nil => .nil
  | _, _, n + 1, .cons r t => .cons r (Vals.take n t)
theorem Vals.drop : ∀ {xs : List V} {us : List Value} (n : Nat), Vals xs us → Vals (xs.drop n) (us.drop n)
  | _, _, 0, r => r
  | _, _, _ + 1, .nil => .nil
  | _, _, n + 1, .cons _ t => Vals.drop n t
def RelO : Option V → Option Value → Prop
  | some v, some u => RelV v u
  | none, none => True
  | _, _ => False
def KV {κ : Type} : List (κ × V) → List (κ × Value) → Prop := Paired fun (p : κ × V) (q : κ × Value) => p.1 = q.1 ∧ RelV p.2 q.2

/-- a key of a dict (00_mix): an int or a text -/
def kV : Key → V
  | .inl i => .int i
  | .inr x => .str x

/-- what stands at a tracked address -/
inductive HO where
  /-- a list -/
  | lst (xs : List V)
  /-- a tuple (never changes) -/
  | tup (xs : List V)
  /-- a dict whose keys are ints and texts; one whose keys are tuples of ints and texts (the empty one is both) -/
  | dK (kvs : List (Key × V)) | dT (kvs : List (List Key × V))
  /-- a set of ints: its members, its size -/
  | set (S : Int → Bool) (n : Nat)
  /-- an instance of the class at C, its dict at dx, its attributes -/
  | ins (C dx : Addr) (fs : List (Str × V))
  /-- the dict of the instance at x -/
  | own (x : Addr)
  /-- the dict of an exception -/
  | xd (fs : List (Str × V))
  /-- a bound method, f of x -/
  | met (f x : Addr)
  /-- a range object lo, lo + 1, .. below hi -/
  | rng (lo hi : Int)
  /-- a thing that is known to the object (the script; a dict while a loop walks it): read, never written while it is so -/
  | frz (o : Obj) (u : HO)
  /-- a code object's table -/
  | tbl (ps : Array Value)
  /-- any other thing, by what is true of its one object (a def of one's own: SetO a S n := HO.ext fun h => ..) -/
  | ext (φ : Heap → Prop)

abbrev Hp := Addr → Option HO
def upd (H : Hp) (a : Addr) (o : HO) : Hp := fun b => if b = a then some o else H b
theorem upd_same {H : Hp} {a : Addr} {o : HO} : upd H a o a = some o := by unfold upd; rw [if_pos rfl]
theorem upd_ne {H : Hp} {a b : Addr} {o : HO} (h : b ≠ a) : upd H a o b = H b := by unfold upd; rw [if_neg h]
theorem upd_upd {H : Hp} {a : Addr} {o u : HO} : upd (upd H a o) a u = upd H a u := by
  funext b; unfold upd; split <;> rfl
/-- two objects of different content stand apart -/
theorem ne_of {H : Hp} {a b : Addr} {o u : HO} (h : H a = some o) (h' : H b = some u) (d : o ≠ u) : a ≠ b := by
  intro e; subst e; rw [h] at h'; exact d (Option.some.inj h')
theorem ne_of_none {H : Hp} {a b : Addr} {o : HO} (h : H a = some o) (h' : H b = none) : a ≠ b := by
  intro e; subst e; rw [h] at h'; cases h'

section
variable (P : Program) (w : World)
def ObjOk (H : Hp) (h : Heap) (a : Addr) : HO → Prop
  | .lst xs => xs.length ≤ sizeLine ∧ ∃ (its : List Value) (n : Nat), Vals xs its ∧ h.get? a = some { cls := .type "list", data := .seq its.toArray n }
  | .tup xs => xs.length ≤ sizeLine ∧ ∃ its : List Value, Vals xs its ∧ IsTup h a its.toArray
  | .dK kvs => kvs.length ≤ sizeLine ∧ (a == sysModules) = false ∧ ∃ vs, KV kvs vs ∧ h.DictOf (mixKind P w) a vs
  | .dT kvs => kvs.length ≤ sizeLine ∧ (a == sysModules) = false ∧ ∃ xs : List (List Key × Addr × Value),
      Paired (fun (p : List Key × V) (q : List Key × Addr × Value) => p.1 = q.1 ∧ H q.2.1 = some (.tup (p.1.map kV)) ∧ RelV p.2 q.2.2) kvs xs ∧
      ∃ o es ep, h.get? a = some o ∧ o.ExactDict ∧ o.data = .dict es ep ∧ es.toList = xs.map (entryOfKey (tupleKind (mixKind P w))) ∧ (xs.map (·.1)).Nodup
  | .set S n => h.SetOf (intKind P w) a S n
  | .ins C dx fs => H dx = some (.own a) ∧ fs.length ≤ 1000 ∧ dx ≠ a ∧ h.get? a = some (PySem.W.instObj C dx) ∧
      ∃ mA, h.Ns1 dx mA ∧ (∀ f, RelO (fs.lookup f) (mA f)) ∧ PySem.Within mA (fs.map (·.1))
  | .own _ => ∃ o, h.get? a = some o
  | .xd fs => ∃ mA, h.Ns1 a mA ∧ ∀ f, RelO (fs.lookup f) (mA f)
  | .rng lo hi => ∃ t u v, h.get? a = some { cls := .type "range", data := .fields #[.int lo t, .int hi u, .int 1 v] }
  | .frz o u => h.get? a = some o ∧ ObjOk H h a u
  | .tbl ps => h.get? a = some { cls := .none, data := .fields ps }
  | .met f x => h.get? a = some (PySem.W.methodObj (.ref f) (.ref x))
  | .ext φ => φ h ∧ (∃ o, h.get? a = some o) ∧ ∀ h1 h2 : Heap, φ h1 → (∀ o, h1.get? a = some o → h2.get? a = some o) → φ h2
/-- the abstract heap is held -/
def HOk (H : Hp) (h : Heap) : Prop := ∀ a o, H a = some o → ObjOk P w H h a o
end

section
variable {P : Program} {w : World} {H H' : Hp} {h h' : Heap} {a : Addr} {o : HO}
theorem ObjOk.lt (x : ObjOk P w H h a o) : a < h.objs.size := by
  cases o with
  | lst xs => obtain ⟨_, _, _, _, e⟩ := x; exact Heap.lt_size e
  | tup xs => obtain ⟨_, _, _, p⟩ := x; exact p.lt
  | dK kvs => obtain ⟨_, _, _, _, o, _, _, e, _⟩ := x; exact Heap.lt_size e
  | dT kvs => obtain ⟨_, _, _, _, o, _, _, e, _⟩ := x; exact Heap.lt_size e
  | set S n => obtain ⟨o, _, _, _, e, _⟩ := x; exact Heap.lt_size e
  | ins C dx fs => obtain ⟨_, _, _, e, _⟩ := x; exact Heap.lt_size e
  | own y => obtain ⟨_, e⟩ := x; exact Heap.lt_size e
  | xd fs => obtain ⟨_, ⟨_, _, _, e, _⟩, _⟩ := x; exact Heap.lt_size e
  | rng lo hi => obtain ⟨_, _, _, e⟩ := x; exact Heap.lt_size e
  | frz ob u => obtain ⟨e, _⟩ := x; exact Heap.lt_size e
  | tbl ps => exact Heap.lt_size (show h.get? a = some _ from x)
  | met f y => exact Heap.lt_size (show h.get? a = some _ from x)
  | ext φ => obtain ⟨_, ⟨_, e⟩, _⟩ := x; exact Heap.lt_size e
theorem Paired.mapP {α β : Type} {F G : α → β → Prop} : ∀ {l₁ : List α} {l₂ : List β}, Paired F l₁ l₂ → (∀ a b, F a b → G a b) → Paired G l₁ l₂
  | _, _, .nil, _ => .nil
  | _, _, .cons r t, f => .cons (f _ _ r) (Paired.mapP t f)
/-- what an object's description leans on: its own object, its own dict, the tuples -/
theorem ObjOk.stay (x : ObjOk P w H h a o) (k : ∀ b u, (b = a ∨ H b = some (.own a)) → h.get? b = some u → h'.get? b = some u)
    (ho : ∀ b, H b = some (.own a) → H' b = some (.own a)) (ht : ∀ b xs, H b = some (.tup xs) → H' b = some (.tup xs)) : ObjOk P w H' h' a o := by
  induction o with
  | lst xs => obtain ⟨z, its, n, r, e⟩ := x; exact ⟨z, its, n, r, k _ _ (.inl rfl) e⟩
  | tup xs => obtain ⟨z, its, r, ob, e, c⟩ := x; exact ⟨z, its, r, ob, k _ _ (.inl rfl) e, c⟩
  | dK kvs => obtain ⟨z, y, vs, r, ob, es, ep, e, c⟩ := x; exact ⟨z, y, vs, r, ob, es, ep, k _ _ (.inl rfl) e, c⟩
  | dT kvs =>
    obtain ⟨z, y, xs, r, ob, es, ep, e, c⟩ := x
    exact ⟨z, y, xs, Paired.mapP r fun p q z => ⟨z.1, ht _ _ z.2.1, z.2.2⟩, ob, es, ep, k _ _ (.inl rfl) e, c⟩
  | set S n => obtain ⟨ob, es, ep, t, e, c⟩ := x; exact ⟨ob, es, ep, t, k _ _ (.inl rfl) e, c⟩
  | ins C dx fs =>
    obtain ⟨d, z, ne, e, mA, ⟨od, es, ep, e2, c⟩, r⟩ := x
    exact ⟨ho _ d, z, ne, k _ _ (.inl rfl) e, mA, ⟨od, es, ep, k _ _ (.inr d) e2, c⟩, r⟩
  | own y => obtain ⟨ob, e⟩ := x; exact ⟨ob, k _ _ (.inl rfl) e⟩
  | xd fs => obtain ⟨mA, ⟨od, es, ep, e, c⟩, r⟩ := x; exact ⟨mA, ⟨od, es, ep, k _ _ (.inl rfl) e, c⟩, r⟩
  | rng lo hi => obtain ⟨t, u, v, e⟩ := x; exact ⟨t, u, v, k _ _ (.inl rfl) e⟩
  | frz ob u ih => obtain ⟨e, q⟩ := x; exact ⟨k _ _ (.inl rfl) e, ih q⟩
  | tbl ps =>
    have e : h.get? a = some { cls := .none, data := .fields ps } := x
    show h'.get? a = some { cls := .none, data := .fields ps }
    exact k a _ (.inl rfl) e
  | met f y =>
    have e : h.get? a = some (PySem.W.methodObj (.ref f) (.ref y)) := x
    show h'.get? a = some (PySem.W.methodObj (.ref f) (.ref y))
    exact k a _ (.inl rfl) e
  | ext φ => obtain ⟨p, ⟨o, e⟩, st⟩ := x; exact ⟨st _ _ p fun o q => k _ _ (.inl rfl) q, ⟨o, k _ _ (.inl rfl) e⟩, st⟩
theorem HOk.lt (x : HOk P w H h) (e : H a = some o) : a < h.objs.size := (x a o e).lt
theorem HOk.fresh (x : HOk P w H h) (e : h.objs.size ≤ a) : H a = none := by
  cases q : H a with
  | none => rfl
  | some u => exact absurd (Nat.lt_of_lt_of_le (x.lt q) e) (Nat.lt_irrefl _)
/-- every object of the heap is kept -/
theorem HOk.kept (x : HOk P w H h) (k : ∀ b u, h.get? b = some u → h'.get? b = some u) : HOk P w H h' := fun a o e =>
  (x a o e).stay (fun b u _ q => k b u q) (fun _ q => q) fun _ _ q => q
/-- a new object is laid and tracked -/
theorem HOk.laid (x : HOk P w H h) (k : ∀ b u, h.get? b = some u → h'.get? b = some u) (hp : h.objs.size ≤ a) (new : ObjOk P w (upd H a o) h' a o) : HOk P w (upd H a o) h' := fun b u e => by
  have hn := x.fresh hp
  by_cases hb : b = a
  · subst hb; rw [upd_same] at e; cases e; exact new
  · rw [upd_ne hb] at e
    exact (x b u e).stay (fun c v _ q => k c v q) (fun c q => by rw [upd_ne (ne_of_none q hn)]; exact q) fun c xs q => by rw [upd_ne (ne_of_none q hn)]; exact q
end

/-- what may be read as u: it is u, or a known u -/
def Rd (H : Hp) (a : Addr) (u : HO) : Prop := H a = some u ∨ ∃ o, H a = some (.frz o u)
theorem Rd.ok {P : Program} {w : World} {H : Hp} {h : Heap} {a : Addr} {u : HO} (r : Rd H a u) (x : HOk P w H h) : ObjOk P w H h a u := by
  rcases r with r | ⟨o, r⟩
  · exact x a u r
  · obtain ⟨_, q⟩ := x a _ r
    exact q
/-- what may be written -/
def Mut : Option HO → Prop
  | some (.lst _) => True
  | some (.dK _) => True
  | some (.dT _) => True
  | some (.set _ _) => True
  | some (.ins _ _ _) => True
  | some (.ext _) => True
  | _ => False
section
variable {P : Program} {w : World} {H : Hp} {h h' : Heap} {x e : Addr} {o' : HO}
/-- the object at e is changed: x itself, or the dict of the instance x -/
theorem HOk.write (ok : HOk P w H h) (mu : Mut (H x)) (he : e = x ∨ H e = some (.own x)) (k : ∀ b u, b ≠ e → h.get? b = some u → h'.get? b = some u) (heo : ∃ u, h'.get? e = some u)
    (new : ObjOk P w (upd H x o') h' x o') : HOk P w (upd H x o') h' := fun b u q => by
  have nown : ∀ c y, H c = some (.own y) → c ≠ x := fun c y r z => by subst z; rw [r] at mu; exact mu
  have ntup : ∀ c xs, H c = some (.tup xs) → c ≠ x := fun c xs r z => by subst z; rw [r] at mu; exact mu
  by_cases hb : b = x
  · subst hb; rw [upd_same] at q; cases q; exact new
  · rw [upd_ne hb] at q
    by_cases hbe : b = e
    · have q' : H b = some (.own x) := by
        rcases he with z | z
        · exact absurd (hbe.trans z) hb
        · rw [hbe]; exact z
      rw [q] at q'; cases q'
      obtain ⟨v, hv⟩ := heo
      exact ⟨v, by rw [hbe]; exact hv⟩
    · refine (ok b u q).stay (fun c v hc r => k c v ?_ r) (fun c r => by rw [upd_ne (nown c b r)]; exact r) fun c xs r => by rw [upd_ne (ntup c xs r)]; exact r
      rcases hc with rfl | hc
      · exact hbe
      · rintro rfl
        rcases he with z | z
        · exact nown c b hc z
        · rw [hc] at z; cases z; exact hb rfl
end

/-! ### kept unless tracked; of the frames at fs (the callers') the slots may change (an exception that passes writes there); of the records at ex (iterators) nothing is said -/
structure Un (fs ex : List Addr) (H H' : Hp) (h h' : Heap) : Prop where
  keep : ∀ b o, h.get? b = some o → H b = none → b ∉ fs → b ∉ ex → h'.get? b = some o
  slot : ∀ b o, h.get? b = some o → H b = none → b ∈ fs → b ∉ ex → ∃ sl, h'.get? b = some { o with slots := sl }
  free : ∀ b o, h.get? b = some o → H b = none → b ∉ ex → H' b = none
  there : ∀ b o, h.get? b = some o → b ∉ ex → ∃ o', h'.get? b = some o'
  tups : ∀ b xs, H b = some (.tup xs) → H' b = some (.tup xs)
  frzs : ∀ b o u, H b = some (.frz o u) → H' b = some (.frz o u)
  tbls : ∀ b ps, H b = some (.tbl ps) → ∃ more, H' b = some (.tbl (ps ++ more))
section
variable {fs fs' ex ex' : List Addr} {H H1 H2 : Hp} {h h1 h2 h' : Heap} {a x e : Addr} {o : HO}
theorem Un.any (u : Un fs ex H H1 h h1) {b : Addr} {ob : Obj} (q : h.get? b = some ob) (n : H b = none) (hx : b ∉ ex) : ∃ sl, h1.get? b = some { ob with slots := sl } := by
  by_cases hb : b ∈ fs
  · exact u.slot b ob q n hb hx
  · exact ⟨ob.slots, u.keep b ob q n hb hx⟩
theorem Un.kept (k : ∀ b u, h.get? b = some u → h'.get? b = some u) : Un fs ex H H h h' :=
  ⟨fun b ob q _ _ _ => k b ob q, fun b ob q _ _ _ => ⟨ob.slots, k b ob q⟩, fun _ _ _ n _ => n, fun b ob q _ => ⟨ob, k b ob q⟩, fun _ _ q => q, fun _ _ _ q => q, fun _ ps q => ⟨#[], by rw [q]; simp⟩⟩
theorem Un.refl : Un fs ex H H h h := Un.kept fun _ _ q => q
theorem Un.laid (k : ∀ b u, h.get? b = some u → h'.get? b = some u) (hp : h.objs.size ≤ a) (hn : H a = none) : Un fs ex H (upd H a o) h h' where
  keep := fun b u q _ _ _ => k b u q
  slot := fun b u q _ _ _ => ⟨u.slots, k b u q⟩
  free := fun b u q n _ => by rw [upd_ne (Nat.ne_of_lt (Nat.lt_of_lt_of_le (Heap.lt_size q) hp))]; exact n
  there := fun b u q _ => ⟨u, k b u q⟩
  tups := fun b xs q => by rw [upd_ne (ne_of_none q hn)]; exact q
  frzs := fun b u xs q => by rw [upd_ne (ne_of_none q hn)]; exact q
  tbls := fun b ps q => ⟨#[], by rw [upd_ne (ne_of_none q hn), q]; simp⟩
theorem Un.write (mu : Mut (H x)) (he : e = x ∨ H e = some (.own x)) (k : ∀ b u, b ≠ e → h.get? b = some u → h'.get? b = some u) (heo : ∃ u, h'.get? e = some u) : Un fs ex H (upd H x o) h h' := by
  have hx : ∀ b, H b = none → b ≠ x := fun b n z => by subst z; rw [n] at mu; exact mu
  have hb : ∀ b, H b = none → b ≠ e := fun b n z => by
    subst z
    rcases he with r | r
    · exact hx b n r
    · rw [n] at r; cases r
  have hm : ∀ b u, H b = some u → ¬ Mut (some u) → b ≠ x := fun b u q nm z => by subst z; rw [q] at mu; exact nm mu
  refine ⟨fun b u q n _ _ => k b u (hb b n) q, fun b u q n _ _ => ⟨u.slots, k b u (hb b n) q⟩, fun b u q n _ => by rw [upd_ne (hx b n)]; exact n, fun b u q _ => ?_,
    fun b xs q => by rw [upd_ne (hm b _ q fun z => z)]; exact q, fun b u xs q => by rw [upd_ne (hm b _ q fun z => z)]; exact q, fun b ps q => ⟨#[], by rw [upd_ne (hm b _ q fun z => z), q]; simp⟩⟩
  by_cases hbe : b = e
  · subst hbe; exact heo
  · exact ⟨u, k b u hbe q⟩
end

/-! ### the heap without what is tracked -/
def trk (h : Heap) (H : Hp) : List Addr := (List.range h.objs.size).filter fun a => (H a).isSome
def hidT (h : Heap) (H : Hp) : Heap := PySem.W.hideAll h (trk h H)
theorem hidT_size (h : Heap) (H : Hp) : (hidT h H).objs.size = h.objs.size := PySem.W.hideAll_size _ _
theorem hidT_get {h : Heap} {H : Hp} {b : Addr} {o : Obj} (e : h.get? b = some o) (n : H b = none) : (hidT h H).get? b = some o :=
  PySem.W.hideAll_get _ e fun hm => by
    have q : (H b).isSome = true := (List.mem_filter.mp hm).2
    rw [n] at q; simp at q
theorem of_hidT {h : Heap} {H : Hp} {b : Addr} {o : Obj} (e : (hidT h H).get? b = some o) : h.get? b = some o ∧ H b = none := by
  have e' : h.get? b = some o := PySem.W.of_hideAll (trk h H) e
  refine ⟨e', ?_⟩
  cases q : H b with
  | none => rfl
  | some x =>
    have hm : b ∈ trk h H := List.mem_filter.mpr ⟨List.mem_range.mpr (Heap.lt_size e'), by simp [q]⟩
    have z : (hidT h H).get? b = none := PySem.W.hideAll_none (trk h H) hm
    rw [z] at e; cases e

/-! ### OpenK's ledger, filled with every new object but one -/
def allNews (g h : Heap) (L : Addr) : List (Addr × Obj) := (List.range h.objs.size).filterMap fun a => if a = L ∨ (g.get? a).isSome = true then none else (h.get? a).map fun o => (a, o)
def rest (g h : Heap) (L d : Addr) : List (Addr × Obj) := (allNews g h L).filter fun p => decide (p.1 ≠ d)
end L2

namespace L2
open PySem PySem.Spec PyProof.Rows

/-- the module's facts, over the base: the heap at the law's entry without what is tracked there -/
structure Mod (K : PySem.W.Frag) (mg : Str → Option Value) (base : Heap) : Prop where
  kin : K.In base
  glob : base.Ns mainGlobals mg
  blt : ∃ mb, base.Ns builtinsNs mb ∧ ∀ x : Str, x ≠ "__name__" → mb x = bootBuiltins x
  nolimit : base.NoLimit

/-- the context: a def's body (or a comprehension's block) running. base: fixed through the whole law; s₀, H₀: the entry; outer: the frames whose slots others may change (a def's callers); stack: all frames that run;
   ex: iterators that were made ahead of the entry and are walked here (a comprehension's); fn: the names whose cells were made at the entry (a def: all; a comprehension's block: its own); calm: not within an except suite; pn: pins that every state bears; xe: what is wanted of an exception that leaves the code -/
structure Cx where
  prog : Program
  w : World
  K : PySem.W.Frag
  mg : Str → Option Value
  base : Heap
  A : Around
  N : List Str
  s₀ : Shared
  H₀ : Hp
  env : Env
  outer : List Env
  stack : List Env
  ex : List Addr
  fn : Str → Bool
  calm : Bool
  pn : List (Addr × Obj)
  xe : Value → Shared → Prop
/-- the callers' frames -/
def frs (l : List Env) : List Addr := l.filterMap (·.frame)
abbrev Cx.fs (X : Cx) : List Addr := frs X.outer

def Vis (sc : Scope) (x : Str) : Prop := sc.names.lookup x = some .local ∨ sc.names.lookup x = some .cell ∨ sc.names.lookup x = some .free
def Loc (sc : Scope) (x : Str) : Prop := sc.names.lookup x = some .local ∨ sc.names.lookup x = some .cell
def Look (env : Env) (h : Heap) (m : Str → Option Value) (x : Str) (u : Value) : Prop :=
  (env.kindOf x = some .local ∧ m x = some u) ∨ ((env.kindOf x = some .cell ∨ env.kindOf x = some .free) ∧ ∃ c, env.cells.lookup x = some c ∧ h.IsCell c (some u))

structure Cx.Ok (X : Cx) : Prop where
  mod : Mod X.K X.mg X.base
  kind : X.env.scope.kind = .function
  glob : X.env.globals = mainGlobals
  blt : X.env.builtins = builtinsNs
  above : X.s₀.heap.objs.size ≤ X.env.locals
  inj : ∀ x y c, X.env.cells.lookup x = some c → X.env.cells.lookup y = some c → x = y
  has : ∀ x, (X.env.kindOf x = some .cell ∨ X.env.kindOf x = some .free) → ∃ c, X.env.cells.lookup x = some c
  cab : ∀ x c, X.fn x = true → X.env.cells.lookup x = some c → X.s₀.heap.objs.size ≤ c
  hd : X.calm = true → X.A.handled = none
  frames : X.A.frames = some X.stack
  stk : X.stack = X.outer ∨ (X.stack = X.env :: X.outer ∧ X.env.frame = some X.env.locals)
  exf : ∀ b ∈ X.ex, b ≠ X.env.locals ∧ ∀ x c, X.env.cells.lookup x = some c → c ≠ b
  bs : ∀ b o, X.base.get? b = some o → X.s₀.heap.get? b = some o ∧ X.H₀ b = none
  bsz : X.base.objs.size ≤ X.s₀.heap.objs.size
  noex : ∀ b o, X.base.get? b = some o → b ∉ X.ex
  exfs : ∀ b ∈ X.ex, b ∉ X.fs
  funs : X.s₀.heap.FunFrames X.base X.outer
  frf : ∀ b ∈ X.fs, X.H₀ b = none

structure Inv (X : Cx) (pins : List (Addr × Obj)) (σ : List (Option V)) (H : Hp) (s : Shared) : Prop where
  ok : X.Ok
  os : s.os = X.s₀.os
  bare : AllBare s.gens
  base : Un X.fs X.ex X.H₀ H X.s₀.heap s.heap
  loc : ∃ m, s.heap.Ns X.env.locals m ∧ ∀ (i : Nat) (x : Str) (v : V), X.N[i]? = some x → σ[i]? = some (some v) → Vis X.env.scope x → ∃ u, RelV v u ∧ Look X.env s.heap m x u
  cell : ∀ x c, X.env.cells.lookup x = some c → ∃ v, s.heap.IsCell c v
  free : H X.env.locals = none
  freeC : ∀ x c, X.env.cells.lookup x = some c → H c = none
  pin : ∀ p ∈ X.pn ++ pins, s.heap.get? p.1 = some p.2 ∧ H p.1 = none ∧ p.1 ≠ X.env.locals ∧ p.1 ∉ X.fs ∧ ∀ v, p.2.data ≠ .cell v
  hok : HOk X.prog X.w H s.heap
  len : σ.length = X.N.length

section
variable {X : Cx} {pins : List (Addr × Obj)} {σ : List (Option V)} {H H' : Hp} {s : Shared} {h' : Heap}

theorem Cx.Ok.nofr (ok : X.Ok) {b : Addr} {o : Obj} (e : X.base.get? b = some o) : b ∉ X.fs := fun hb => by
  have := (ok.funs.mem hb).1
  rw [e] at this; cases this
theorem Inv.bs (I : Inv X pins σ H s) : ∀ b o, X.base.get? b = some o → s.heap.get? b = some o ∧ H b = none := fun b o e =>
  ⟨I.base.keep b o (I.ok.bs b o e).1 (I.ok.bs b o e).2 (I.ok.nofr e) (I.ok.noex b o e), I.base.free b o (I.ok.bs b o e).1 (I.ok.bs b o e).2 (I.ok.noex b o e)⟩
theorem Inv.bk (I : Inv X pins σ H s) : ∀ b o, X.base.get? b = some o → s.heap.get? b = some o := fun b o e => (I.bs b o e).1
theorem Inv.mod (I : Inv X pins σ H s) : Mod X.K X.mg X.base := I.ok.mod
theorem Inv.kIn (I : Inv X pins σ H s) : X.K.In s.heap := I.ok.mod.kin.keeps I.bk
theorem Inv.lt (I : Inv X pins σ H s) : X.env.locals < s.heap.objs.size := let ⟨_, hn, _⟩ := I.loc; hn.lt
theorem Inv.sz (I : Inv X pins σ H s) : X.s₀.heap.objs.size ≤ s.heap.objs.size := Nat.le_trans I.ok.above (Nat.le_of_lt I.lt)
theorem Inv.nofs (I : Inv X pins σ H s) {a : Addr} (h : s.heap.objs.size ≤ a) : a ∉ X.fs := fun hb => by
  obtain ⟨_, o, ho, _⟩ := I.ok.funs.mem hb
  exact absurd (Nat.lt_of_lt_of_le (Heap.lt_size ho) (Nat.le_trans I.sz h)) (Nat.lt_irrefl _)
theorem Inv.cne (I : Inv X pins σ H s) : ∀ x c, X.env.cells.lookup x = some c → c ≠ X.env.locals := fun x c e z => by
  obtain ⟨v, o, ho, hd⟩ := I.cell x c e
  obtain ⟨m, ⟨o', es, ep, ho', hd', _⟩, _⟩ := I.loc
  rw [z, ho'] at ho; cases ho; rw [hd'] at hd; cases hd
theorem Inv.funs (I : Inv X pins σ H s) : s.heap.FunFrames X.base X.outer := by
  have all : ∀ (l : List Env), (∀ b ∈ frs l, b ∈ X.fs) → X.s₀.heap.FunFrames X.base l → s.heap.FunFrames X.base l := by
    intro l
    induction l with
    | nil => intro _ _; trivial
    | cons env r ih =>
      intro hs hl
      obtain ⟨hk, ⟨L, o, hf, hn, ho, hd⟩, hr⟩ := hl
      have hL : L ∈ X.fs := hs L (by unfold frs; rw [List.filterMap_cons, hf]; exact List.mem_cons_self)
      obtain ⟨sl, e⟩ := I.base.slot L o ho (I.ok.frf L hL) hL fun z => I.ok.exfs L z hL
      exact ⟨hk, ⟨L, _, hf, hn, e, hd⟩, ih (fun b hb => hs b (by unfold frs; rw [List.filterMap_cons, hf]; exact List.mem_cons_of_mem _ hb)) hr⟩
  exact all X.outer (fun _ hb => hb) I.ok.funs

/-- the frames that run, for a call -/
theorem Inv.stack (I : Inv X pins σ H s) : s.heap.FunFrames X.base X.stack := by
  rcases I.ok.stk with e | ⟨e, hf⟩
  · rw [e]; exact I.funs
  · rw [e]
    obtain ⟨m, hn, _⟩ := I.loc
    refine .cons (by rw [I.ok.kind]; decide) hf hn ?_ I.funs
    exact Heap.get?_none_of_le (Nat.le_trans I.ok.bsz I.ok.above)
theorem Inv.stkSub (I : Inv X pins σ H s) : ∀ b ∈ frs X.stack, b ∈ X.env.locals :: X.fs := fun b hb => by
  rcases I.ok.stk with e | ⟨e, hf⟩
  · rw [e] at hb; exact List.mem_cons_of_mem _ hb
  · rw [e] at hb
    unfold frs at hb
    rw [List.filterMap_cons, hf] at hb
    exact hb
theorem Inv.stkFree (I : Inv X pins σ H s) : ∀ b ∈ frs X.stack, H b = none := fun b hb => by
  rcases List.mem_cons.mp (I.stkSub b hb) with e | hb
  · rw [e]; exact I.free
  · obtain ⟨_, o, ho, _⟩ := I.ok.funs.mem hb
    exact I.base.free b o ho (I.ok.frf b hb) fun z => I.ok.exfs b z hb

/-- THE STEP: the untracked objects but the frame and the records at ch are kept (the callers' frames up to slots), the frame's map is kept, the new abstract heap is held -/
theorem Inv.step {g' : Array GenState} {t' : Nat} {d' : Drawn} {ch : List Addr} (I : Inv X pins σ H s)
    (hch : ∀ b ∈ ch, (b ∈ X.ex ∨ X.s₀.heap.objs.size ≤ b) ∧ b ≠ X.env.locals ∧ (∀ x c, X.env.cells.lookup x = some c → c ≠ b) ∧ ∀ p ∈ X.pn ++ pins, p.1 ≠ b)
    (keep : ∀ b o, b ≠ X.env.locals → b ∉ X.fs → b ∉ ch → s.heap.get? b = some o → H b = none → h'.get? b = some o)
    (slot : ∀ b o, b ≠ X.env.locals → b ∈ X.fs → b ∉ ch → s.heap.get? b = some o → H b = none → ∃ sl, h'.get? b = some { o with slots := sl }) (free : ∀ b o, b ∉ ch → s.heap.get? b = some o → H b = none → H' b = none)
    (there : ∀ b o, b ∉ ch → s.heap.get? b = some o → ∃ o', h'.get? b = some o')
    (tups : ∀ b xs, H b = some (.tup xs) → H' b = some (.tup xs)) (frzs : ∀ b o u, H b = some (.frz o u) → H' b = some (.frz o u)) (tbls : ∀ b ps, H b = some (.tbl ps) → ∃ more, H' b = some (.tbl (ps ++ more)))
    (ns : ∀ m, s.heap.Ns X.env.locals m → h'.Ns X.env.locals m) (hok : HOk X.prog X.w H' h') (hg : AllBare g') :
    Inv X pins σ H' { s with heap := h', gens := g', drawn := d', toks := t' } := by
  have neL : ∀ b o, X.s₀.heap.get? b = some o → b ≠ X.env.locals := fun b o e => Nat.ne_of_lt (Nat.lt_of_lt_of_le (Heap.lt_size e) I.ok.above)
  have neC : ∀ b o, X.s₀.heap.get? b = some o → b ∉ X.ex → b ∉ ch := fun b o e hx hb => by
    rcases (hch b hb).1 with z | z
    · exact hx z
    · exact absurd (Nat.lt_of_lt_of_le (Heap.lt_size e) z) (Nat.lt_irrefl _)
  have cellK : ∀ x c, X.env.cells.lookup x = some c → ∀ v, s.heap.IsCell c v → h'.IsCell c v := fun x c e v ⟨o, ho, hd⟩ => by
    have nch : c ∉ ch := fun z => (hch c z).2.2.1 x c e rfl
    by_cases hc : c ∈ X.fs
    · obtain ⟨sl, q⟩ := slot c o (I.cne x c e) hc nch ho (I.freeC x c e)
      exact ⟨_, q, hd⟩
    · exact ⟨o, keep c o (I.cne x c e) hc nch ho (I.freeC x c e), hd⟩
  refine ⟨I.ok, I.os, hg, ⟨fun b o e n hb hx => ?_, fun b o e n hb hx => ?_, fun b o e n hx => ?_, fun b o e hx => ?_, fun b xs e => tups b xs (I.base.tups b xs e), fun b o xs e => frzs b o xs (I.base.frzs b o xs e), fun b ps e => ?_⟩, ?_, fun x c e => ?_, ?_, fun x c e => ?_, fun p hp => ?_, hok, I.len⟩
  · exact keep b o (neL b o e) hb (neC b o e hx) (I.base.keep b o e n hb hx) (I.base.free b o e n hx)
  · obtain ⟨sl, e1⟩ := I.base.slot b o e n hb hx
    obtain ⟨sl', e2⟩ := slot b _ (neL b o e) hb (neC b o e hx) e1 (I.base.free b o e n hx)
    exact ⟨sl', e2⟩
  · obtain ⟨o', e1⟩ := I.base.there b o e hx
    exact free b o' (neC b o e hx) e1 (I.base.free b o e n hx)
  · obtain ⟨o', e1⟩ := I.base.there b o e hx
    exact there b o' (neC b o e hx) e1
  · obtain ⟨m1, e1⟩ := I.base.tbls b ps e
    obtain ⟨m2, e2⟩ := tbls b _ e1
    exact ⟨m1 ++ m2, by rw [e2, Array.append_assoc]⟩
  · obtain ⟨m, hn, hl⟩ := I.loc
    refine ⟨m, ns m hn, fun i x v e1 e2 e3 => ?_⟩
    obtain ⟨u, r, l⟩ := hl i x v e1 e2 e3
    refine ⟨u, r, ?_⟩
    rcases l with l | ⟨k, c, e, z⟩
    · exact .inl l
    · exact .inr ⟨k, c, e, cellK x c e _ z⟩
  · obtain ⟨v, z⟩ := I.cell x c e
    exact ⟨v, cellK x c e v z⟩
  · obtain ⟨m, ⟨o, _, _, ho, _⟩, _⟩ := I.loc
    exact free _ o (fun z => (hch _ z).2.1 rfl) ho I.free
  · obtain ⟨v, o, ho, hd⟩ := I.cell x c e
    exact free c o (fun z => (hch c z).2.2.1 x c e rfl) ho (I.freeC x c e)
  · obtain ⟨e, n, ne, nf, d⟩ := I.pin p hp
    have nch : p.1 ∉ ch := fun z => (hch p.1 z).2.2.2 p hp rfl
    exact ⟨keep p.1 p.2 ne nf nch e n, free p.1 p.2 nch e n, ne, nf, d⟩
/-- .. where the frame's own object is kept too -/
theorem Inv.un {t' : Nat} (I : Inv X pins σ H s) (u : Un X.fs [] H H' s.heap h') (hok : HOk X.prog X.w H' h') : Inv X pins σ H' { s with heap := h', toks := t' } := by
  obtain ⟨m, ⟨o, es, ep, ho, r⟩, _⟩ := id I.loc
  obtain ⟨sl, hL⟩ := u.any ho I.free (by simp)
  exact I.step (g' := s.gens) (d' := s.drawn) (ch := []) (fun _ z => nomatch z) (fun b o _ hb _ e n => u.keep b o e n hb (by simp)) (fun b o _ hb _ e n => u.slot b o e n hb (by simp)) (fun b o _ e n => u.free b o e n (by simp)) (fun b o _ e => u.there b o e (by simp)) u.tups u.frzs u.tbls (fun m' hm => by
    obtain ⟨o', es', ep', ho', r'⟩ := hm
    rw [ho] at ho'; cases ho'
    exact ⟨_, es', ep', hL, r'⟩) hok I.bare
/-- behind a call (or a comprehension's block): the slots of this frame may have changed too, the records at ch may have turned -/
theorem Inv.call {g' : Array GenState} {t' : Nat} {d' : Drawn} {ch : List Addr} (I : Inv X pins σ H s) (u : Un (frs X.stack) ch H H' s.heap h') (hok : HOk X.prog X.w H' h') (hg : AllBare g')
    (hch : ∀ b ∈ ch, (b ∈ X.ex ∨ X.s₀.heap.objs.size ≤ b) ∧ b ≠ X.env.locals ∧ (∀ x c, X.env.cells.lookup x = some c → c ≠ b) ∧ ∀ p ∈ X.pn ++ pins, p.1 ≠ b) :
    Inv X pins σ H' { s with heap := h', gens := g', drawn := d', toks := t' } := by
  obtain ⟨m, ⟨o, es, ep, ho, r⟩, _⟩ := id I.loc
  obtain ⟨sl, hL⟩ := u.any ho I.free fun z => (hch _ z).2.1 rfl
  exact I.step (ch := ch) hch (fun b o hL hb hc e n => u.keep b o e n (fun z => (List.mem_cons.mp (I.stkSub b z)).elim hL hb) hc) (fun b o _ _ hc e n => u.any e n hc) (fun b o hc e n => u.free b o e n hc) (fun b o hc e => u.there b o e hc) u.tups u.frzs u.tbls (fun m' hm => by
    obtain ⟨o', es', ep', ho', r'⟩ := hm
    rw [ho] at ho'; cases ho'
    exact ⟨_, es', ep', hL, r'⟩) hok hg
/-- an untracked record of ours (an iterator) has turned -/
theorem Inv.turned {t' : Nat} {it : Addr} (I : Inv X pins σ H s) (k : ∀ b o, b ≠ it → s.heap.get? b = some o → h'.get? b = some o) (hn : H it = none) (hL : it ≠ X.env.locals)
    (h1 : it ∈ X.ex ∨ X.s₀.heap.objs.size ≤ it) (h2 : ∀ x c, X.env.cells.lookup x = some c → c ≠ it) (h3 : ∀ p ∈ X.pn ++ pins, p.1 ≠ it) : Inv X pins σ H { s with heap := h', toks := t' } := by
  have nit : ∀ b u, H b = some u → b ≠ it := fun b u e z => by rw [z, hn] at e; cases e
  refine I.step (g' := s.gens) (d' := s.drawn) (ch := [it]) (fun b hb => ?_) (fun b o _ _ hc e _ => k b o (fun z => hc (by simp [z])) e) (fun b o _ _ hc e _ => ⟨o.slots, k b o (fun z => hc (by simp [z])) e⟩) (fun _ _ _ _ n => n)
    (fun b o hc e => ⟨o, k b o (fun z => hc (by simp [z])) e⟩) (fun _ _ e => e) (fun _ _ _ e => e) (fun b ps e => ⟨#[], by rw [e]; simp⟩) (fun m hm => ?_) (fun b u e => ?_) I.bare
  · have e : b = it := by simpa using hb
    subst e
    exact ⟨h1, hL, h2, h3⟩
  · obtain ⟨o, es, ep, ho, r⟩ := hm
    exact ⟨o, es, ep, k _ o (Ne.symm hL) ho, r⟩
  · refine (I.hok b u e).stay (fun c v hc q => k c v ?_ q) (fun _ q => q) fun _ _ q => q
    rcases hc with z | z
    · rw [z]; exact nit b u e
    · exact nit c _ z
theorem Inv.tok (I : Inv X pins σ H s) (t : Nat) : Inv X pins σ H { s with toks := t } := I.un (h' := s.heap) (t' := t) Un.refl I.hok
/-- all objects kept -/
theorem Inv.kept {t' : Nat} (I : Inv X pins σ H s) (k : ∀ b u, s.heap.get? b = some u → h'.get? b = some u) : Inv X pins σ H { s with heap := h', toks := t' } := I.un (Un.kept k) (I.hok.kept k)
/-- a new object laid and tracked -/
theorem Inv.laid {a : Addr} {o : HO} {t' : Nat} (I : Inv X pins σ H s) (k : ∀ b u, s.heap.get? b = some u → h'.get? b = some u) (hp : s.heap.objs.size ≤ a) (new : ObjOk X.prog X.w (upd H a o) h' a o) :
    Inv X pins σ (upd H a o) { s with heap := h', toks := t' } := I.un (Un.laid k hp (I.hok.fresh hp)) (I.hok.laid k hp new)
/-- an object written -/
theorem Inv.write {x e : Addr} {o : HO} {t' : Nat} (I : Inv X pins σ H s) (mu : Mut (H x)) (he : e = x ∨ H e = some (.own x)) (k : ∀ b u, b ≠ e → s.heap.get? b = some u → h'.get? b = some u) (heo : ∃ u, h'.get? e = some u)
    (new : ObjOk X.prog X.w (upd H x o) h' x o) : Inv X pins σ (upd H x o) { s with heap := h', toks := t' } := I.un (Un.write mu he k heo) (I.hok.write mu he k heo new)
theorem Inv.pins_of {pins' : List (Addr × Obj)} (I : Inv X pins σ H s) (h : ∀ p ∈ pins', s.heap.get? p.1 = some p.2 ∧ H p.1 = none ∧ p.1 ≠ X.env.locals ∧ p.1 ∉ X.fs ∧ ∀ v, p.2.data ≠ .cell v) : Inv X pins' σ H s :=
  ⟨I.ok, I.os, I.bare, I.base, I.loc, I.cell, I.free, I.freeC, fun p hp => (List.mem_append.mp hp).elim (fun z => I.pin p (List.mem_append_left _ z)) (h p), I.hok, I.len⟩

theorem nodup_ix {N : List Str} (hN : N.Nodup) {i j : Nat} {x : Str} (a : N[i]? = some x) (b : N[j]? = some x) : i = j := by
  obtain ⟨h1, e1⟩ := List.getElem?_eq_some_iff.mp a
  obtain ⟨h2, e2⟩ := List.getElem?_eq_some_iff.mp b
  exact (List.getElem_inj hN).mp (e1.trans e2.symm)

/-- a name is stored; what changed -/
theorem store_ok2 {M : Model} {A : Around} {E : Value → Shared → Prop} {i : Nat} {x : Str} {v : V} {u : Value} {Q : Unit → Shared → Prop} (I : Inv X pins σ H s) (hN : X.N.Nodup) (hi : X.N[i]? = some x) (hx : Loc X.env.scope x) (r : RelV v u)
    (h : ∀ s', Inv X pins (σ.set i (some v)) H s' → (∃ a, Heap.SameBut a s.heap s'.heap ∧ (a = X.env.locals ∨ X.env.cells.lookup x = some a)) → Q () s') (hf : X.fn x = true ∨ X.env.scope.names.lookup x = some .local := by first | exact .inl rfl | exact .inr rfl | assumption) : wpAny M A (storeName X.env x u) Q E s := by
  obtain ⟨m, hn, hl⟩ := id I.loc
  have hcls : (X.env.scope.kind == .class || (X.env.scope.kind == .module && X.env.locals != X.env.globals)) = false := by rw [I.ok.kind]; rfl
  have hiσ : i < σ.length := by rw [I.len]; exact (List.getElem?_eq_some_iff.mp hi).1
  have cne := I.cne
  have tracked : ∀ {a : Addr} {h' : Heap}, (∃ o, s.heap.get? a = some o ∧ H a = none) → Heap.SameBut a s.heap h' → HOk X.prog X.w H h' := fun {a h'} ha hs b ob e => by
    obtain ⟨_, _, hfree⟩ := ha
    refine (I.hok b ob e).stay (fun c w' hc q => (hs.2 c ?_).trans q) (fun _ q => q) fun _ _ q => q
    rintro rfl
    rcases hc with rfl | hc
    · rw [hfree] at e; cases e
    · rw [hfree] at hc; cases hc
  rcases hx with hk | hk
  · refine wpAny_storeName_local hk hn (fun h' hn' hs => ?_) hcls
    obtain ⟨oL, _, _, hoL, _⟩ := id hn
    refine h _ ⟨I.ok, I.os, I.bare, ⟨fun b o e n hb hx => ?_, fun b o e n hb hx => ?_, I.base.free, fun b o e hx => ?_, I.base.tups, I.base.frzs, I.base.tbls⟩, ⟨_, hn', fun j y v' e1 e2 e3 => ?_⟩, fun y c e => ?_, I.free, I.freeC, fun p hp => ?_, tracked ⟨oL, hoL, I.free⟩ hs, by simpa using I.len⟩ ⟨_, hs, .inl rfl⟩
    · exact (hs.2 b (Nat.ne_of_lt (Nat.lt_of_lt_of_le (Heap.lt_size e) I.ok.above))).trans (I.base.keep b o e n hb hx)
    · obtain ⟨sl, e1⟩ := I.base.slot b o e n hb hx
      exact ⟨sl, (hs.2 b (Nat.ne_of_lt (Nat.lt_of_lt_of_le (Heap.lt_size e) I.ok.above))).trans e1⟩
    · obtain ⟨o', e1⟩ := I.base.there b o e hx
      exact ⟨o', (hs.2 b (Nat.ne_of_lt (Nat.lt_of_lt_of_le (Heap.lt_size e) I.ok.above))).trans e1⟩
    · by_cases hj : j = i
      · subst hj
        rw [hi] at e1; cases e1
        rw [List.getElem?_set_self hiσ] at e2
        cases e2
        exact ⟨u, r, .inl ⟨hk, by simp⟩⟩
      · rw [List.getElem?_set_ne (Ne.symm hj)] at e2
        obtain ⟨u', r', q⟩ := hl j y v' e1 e2 e3
        refine ⟨u', r', ?_⟩
        rcases q with ⟨k, e⟩ | ⟨k, c, e, z⟩
        · refine .inl ⟨k, ?_⟩
          have : y ≠ x := fun e => hj (nodup_ix hN e1 (e ▸ hi))
          simp [this, e]
        · exact .inr ⟨k, c, e, z.sameBut hs (cne y c e)⟩
    · obtain ⟨w', z⟩ := I.cell y c e
      exact ⟨w', z.sameBut hs (cne y c e)⟩
    · obtain ⟨e, n, ne, nf, d⟩ := I.pin p hp
      exact ⟨(hs.2 p.1 ne).trans e, n, ne, nf, d⟩
  · have hfn : X.fn x = true := by
      rcases hf with z | z
      · exact z
      · rw [z] at hk; cases hk
    obtain ⟨c, hc⟩ := I.ok.has x (.inl hk)
    obtain ⟨w', z⟩ := I.cell x c hc
    refine wpAny_storeName_cell I.ok.kind hk hc z (fun h' hc' hs => ?_)
    obtain ⟨oc, hoc, hocd⟩ := id z
    refine h { s with heap := h' } ⟨I.ok, I.os, I.bare, ⟨fun b o e n hb hx => ?_, fun b o e n hb hx => ?_, I.base.free, fun b o e hx => ?_, I.base.tups, I.base.frzs, I.base.tbls⟩, ⟨m, hn.sameBut hs (Ne.symm (cne x c hc)), fun j y v' e1 e2 e3 => ?_⟩, fun y c' e => ?_, I.free, I.freeC, fun p hp => ?_, tracked ⟨oc, hoc, I.freeC x c hc⟩ hs, by simpa using I.len⟩ ⟨c, hs, .inr hc⟩
    · exact (hs.2 b (Nat.ne_of_lt (Nat.lt_of_lt_of_le (Heap.lt_size e) (I.ok.cab x c hfn hc)))).trans (I.base.keep b o e n hb hx)
    · obtain ⟨sl, e1⟩ := I.base.slot b o e n hb hx
      exact ⟨sl, (hs.2 b (Nat.ne_of_lt (Nat.lt_of_lt_of_le (Heap.lt_size e) (I.ok.cab x c hfn hc)))).trans e1⟩
    · obtain ⟨o', e1⟩ := I.base.there b o e hx
      exact ⟨o', (hs.2 b (Nat.ne_of_lt (Nat.lt_of_lt_of_le (Heap.lt_size e) (I.ok.cab x c hfn hc)))).trans e1⟩
    · by_cases hj : j = i
      · subst hj
        rw [hi] at e1; cases e1
        rw [List.getElem?_set_self hiσ] at e2
        cases e2
        exact ⟨u, r, .inr ⟨.inl hk, c, hc, hc'⟩⟩
      · rw [List.getElem?_set_ne (Ne.symm hj)] at e2
        obtain ⟨u', r', q⟩ := hl j y v' e1 e2 e3
        refine ⟨u', r', ?_⟩
        rcases q with q | ⟨k, c', e, z'⟩
        · exact .inl q
        · refine .inr ⟨k, c', e, z'.sameBut hs ?_⟩
          rintro rfl
          exact hj (nodup_ix hN e1 (I.ok.inj _ _ _ e hc ▸ hi))
    · by_cases hcc : c' = c
      · subst hcc; exact ⟨_, hc'⟩
      · obtain ⟨w2, z2⟩ := I.cell y c' e
        exact ⟨w2, z2.sameBut hs hcc⟩
    · obtain ⟨e, n, ne, nf, d⟩ := I.pin p hp
      refine ⟨(hs.2 p.1 ?_).trans e, n, ne, nf, d⟩
      intro q
      rw [q, hoc] at e
      have q' : oc = p.2 := Option.some.inj e
      exact d w' (by rw [← q']; exact hocd)
theorem store_ok {M : Model} {A : Around} {E : Value → Shared → Prop} {i : Nat} {x : Str} {v : V} {u : Value} {Q : Unit → Shared → Prop} (I : Inv X pins σ H s) (hN : X.N.Nodup) (hi : X.N[i]? = some x) (hx : Loc X.env.scope x) (r : RelV v u)
    (h : ∀ s', Inv X pins (σ.set i (some v)) H s' → Q () s') (hf : X.fn x = true ∨ X.env.scope.names.lookup x = some .local := by first | exact .inl rfl | exact .inr rfl | assumption) : wpAny M A (storeName X.env x u) Q E s :=
  store_ok2 I hN hi hx r (fun s' I' _ => h s' I') hf
/-- behind a call or a block, the state as it is -/
theorem Inv.call' {s' : Shared} {ch : List Addr} (I : Inv X pins σ H s) (ho : s'.os = s.os) (u : Un (frs X.stack) ch H H' s.heap s'.heap) (hok : HOk X.prog X.w H' s'.heap) (hg : AllBare s'.gens)
    (hch : ∀ b ∈ ch, (b ∈ X.ex ∨ X.s₀.heap.objs.size ≤ b) ∧ b ≠ X.env.locals ∧ (∀ x c, X.env.cells.lookup x = some c → c ≠ b) ∧ ∀ p ∈ X.pn ++ pins, p.1 ≠ b) : Inv X pins σ H' s' := by
  obtain ⟨h', g', d', t', o'⟩ := s'
  have e : o' = s.os := ho
  subst e
  exact I.call (g' := g') (t' := t') (d' := d') u hok hg hch
end

/-! ### the judgements -/
/-- an exception: its class, its own dict's address (where it has one), the abstract heap behind it -/
abbrev XK := Value → Option Addr → Hp → Prop
abbrev St := List (Option V)
abbrev VK := V → Hp → Prop
/-- an expression's reading; a test's; an argument list's -/
abbrev TE := St → Hp → VK → Prop
abbrev TT := St → Hp → (Bool → Hp → Prop) → Prop
abbrev TA := St → Hp → (List V → Hp → Prop) → Prop
/-- what is wanted behind a statement -/
structure Ends where
  nx : St → Hp → Prop
  rt : VK
  bk : St → Hp → Prop := fun _ _ => False
  ct : St → Hp → Prop := fun _ _ => False
abbrev TS := Ends → St → Hp → Prop

def EP (X : Cx) (pins : List (Addr × Obj)) (σ : St) (Q : VK) (u : Value) (s' : Shared) : Prop := ∃ v H', Inv X pins σ H' s' ∧ RelV v u ∧ Q v H'
def TP (X : Cx) (pins : List (Addr × Obj)) (σ : St) (Q : Bool → Hp → Prop) (b : Bool) (s' : Shared) : Prop := ∃ H', Inv X pins σ H' s' ∧ Q b H'
def AP (X : Cx) (pins : List (Addr × Obj)) (σ : St) (Q : List V → Hp → Prop) (us : List Value) (s' : Shared) : Prop := ∃ vs H', Inv X pins σ H' s' ∧ Vals vs us ∧ Q vs H'
def SP (X : Cx) (pins : List (Addr × Obj)) (D : Ends) (f : Flow) (s' : Shared) : Prop :=
  match f with
  | .next => ∃ σ' H', Inv X pins σ' H' s' ∧ D.nx σ' H'
  | .brk => ∃ σ' H', Inv X pins σ' H' s' ∧ D.bk σ' H'
  | .cont => ∃ σ' H', Inv X pins σ' H' s' ∧ D.ct σ' H'
  | .ret u => ∃ v σ' H', Inv X pins σ' H' s' ∧ RelV v u ∧ D.rt v H'

def PE (X : Cx) (e : Expr) (t : TE) : Prop :=
  ∀ (pins : List (Addr × Obj)) (s : Shared) (σ : St) (H : Hp) (Q : VK), Inv X pins σ H s → t σ H Q → wpAny (model X.prog X.w) X.A (eval e X.env) (EP X pins σ Q) X.xe s
def PT (X : Cx) (e : Expr) (t : TT) : Prop :=
  ∀ (pins : List (Addr × Obj)) (s : Shared) (σ : St) (H : Hp) (Q : Bool → Hp → Prop), Inv X pins σ H s → t σ H Q → wpAny (model X.prog X.w) X.A (isTrue e X.env (eval e X.env)) (TP X pins σ Q) X.xe s
/-- a test whatever its 'whole' is (and, or) -/
def PW (X : Cx) (e : Expr) (t : TT) : Prop :=
  ∀ (whole : Sem Value) (pins : List (Addr × Obj)) (s : Shared) (σ : St) (H : Hp) (Q : Bool → Hp → Prop), Inv X pins σ H s → t σ H Q → wpAny (model X.prog X.w) X.A (isTrue e X.env whole) (TP X pins σ Q) X.xe s
theorem PW.pt {X : Cx} {e : Expr} {t : TT} (h : PW X e t) : PT X e t := h _
/-- an argument list (no star), from the left -/
def PA (X : Cx) (es : List Expr) (t : TA) : Prop :=
  ∀ (pos : Pos) (pins : List (Addr × Obj)) (s : Shared) (σ : St) (H : Hp) (Q : List V → Hp → Prop), Inv X pins σ H s → t σ H Q → wpAny (model X.prog X.w) X.A (spliced (backTo pos (starEach es X.env))) (AP X pins σ Q) X.xe s
def PS (X : Cx) (st : Stmt) (t : TS) : Prop :=
  ∀ (pins : List (Addr × Obj)) (s : Shared) (σ : St) (H : Hp) (D : Ends), Inv X pins σ H s → t D σ H → wpAny (model X.prog X.w) X.A (exec st X.env) (SP X pins D) X.xe s
def PSs (X : Cx) (st : List Stmt) (t : TS) : Prop :=
  ∀ (pins : List (Addr × Obj)) (s : Shared) (σ : St) (H : Hp) (D : Ends), Inv X pins σ H s → t D σ H → wpAny (model X.prog X.w) X.A (execs st X.env) (SP X pins D) X.xe s
/-- weaken the end -/
theorem thn {α : Type} {t : Sem α} {Q Q' : α → Shared → Prop} {M : Model} {A : Around} {E : Value → Shared → Prop} {s : Shared} (h : wpAny M A t Q E s) (hQ : ∀ a s, Q a s → Q' a s) : wpAny M A t Q' E s := wpAny_mono h hQ fun _ _ x => x
end L2

namespace L2
open PySem PySem.Spec PyProof.Rows
section
variable {X : Cx}

/-- two expressions in a row -/
theorem bin {a b : Expr} {ta tb : TE} (ha : PE X a ta) (hb : PE X b tb) {pins : List (Addr × Obj)} {s : Shared} {σ : St} {H : Hp} {R : V → V → Hp → Prop} (I : Inv X pins σ H s) (h : ta σ H fun x H1 => tb σ H1 fun y H2 => R x y H2)
    {α : Type} {Q : α → Shared → Prop} {f : Value → Value → Sem α}
    (hf : ∀ v u s2 x y H2, Inv X pins σ H2 s2 → RelV x v → RelV y u → R x y H2 → wpAny (model X.prog X.w) X.A (f v u) Q X.xe s2) :
    wpAny (model X.prog X.w) X.A (eval a X.env) (fun v s₁ => wpAny (model X.prog X.w) X.A (eval b X.env) (fun u s₂ => wpAny (model X.prog X.w) X.A (f v u) Q X.xe s₂) X.xe s₁) X.xe s := by
  refine thn (ha pins s σ H _ I h) fun v s1 ⟨x, H1, I1, r1, q1⟩ => ?_
  refine thn (hb pins s1 σ H1 _ I1 q1) fun u s2 ⟨y, H2, I2, r2, q2⟩ => ?_
  exact hf v u s2 x y H2 I2 r1 r2 q2

/-! ### names and constants -/
def tVar (i : Nat) : TE := fun σ H Q => ∃ v, σ[i]? = some (some v) ∧ Q v H
def tC (v : V) : TE := fun _ H Q => Q v H
theorem pe_var {i : Nat} {x : Str} {pos : Pos} (hN : X.N[i]? = some x) (hv : Vis X.env.scope x) (hd : (x == ("__debug__" : Str)) = false := by decide) (hcd : (x == ("__classdict__" : Str)) = false := by decide) : PE X (.Name x pos) (tVar i) := by
  intro pins s σ H Q I h
  obtain ⟨v, e, h⟩ := h
  obtain ⟨m, hn, hl⟩ := I.loc
  obtain ⟨u, r, l⟩ := hl i x v hN e hv
  have fin : EP X pins σ Q u s := ⟨v, H, I, r, h⟩
  rcases l with ⟨hk, hm⟩ | ⟨hk, c, hc, hcell⟩
  · exact wpAny_Name (wpAny_loadName_local I.ok.kind hk hn hm fin) hd
  · rcases hk with hk | hk
    · exact wpAny_Name (wpAny_loadName_cell I.ok.kind hk hc hcell fin) hd
    · exact wpAny_Name (wpAny_loadName_free I.ok.kind hk hc hcell fin hcd) hd
theorem pe_int {i j pos} : PE X (.Constant (.int i) j pos) (tC (.int i)) := fun _ _ _ H _ I h => wpAny_Constant_int ⟨.int i, H, I.tok _, ⟨_, rfl⟩, h⟩
theorem pe_bl {b j pos} : PE X (.Constant (.bool b) j pos) (tC (.bl b)) := fun _ _ _ H _ I h => Constant_bool ⟨.bl b, H, I, rfl, h⟩
theorem pe_non {j pos} : PE X (.Constant .none j pos) (tC .non) := fun _ _ _ H _ I h => Constant_none ⟨.non, H, I, rfl, h⟩
theorem pe_str {x j pos} : PE X (.Constant (.str x) j pos) (tC (.str x)) := fun _ _ _ H _ I h => Calls.Constant_str ⟨.str x, H, I.tok _, ⟨_, rfl⟩, h⟩

/-- a global name of the def -/
def Gl (X : Cx) (x : Str) : Prop := X.env.kindOf x = some .globalImplicit
theorem ld_glob {E : Value → Shared → Prop} {pins : List (Addr × Obj)} {s : Shared} {σ : St} {H : Hp} {x : Str} {u : Value} {pos : Pos} {Q : Value → Shared → Prop} (I : Inv X pins σ H s) (hg : Gl X x) (hm : X.mg x = some u) (h : Q u s)
    (hd : (x == ("__debug__" : Str)) = false := by decide) : wpAny (model X.prog X.w) X.A (eval (.Name x pos) X.env) Q E s :=
  Calls.Name_function_global I.ok.kind hg (Calls.loadGlobal_global (by rw [I.ok.glob]; exact I.mod.glob.keeps I.bk) hm h) hd
theorem ld_blt {E : Value → Shared → Prop} {pins : List (Addr × Obj)} {s : Shared} {σ : St} {H : Hp} {x : Str} {u : Value} {pos : Pos} {Q : Value → Shared → Prop} (I : Inv X pins σ H s) (hg : Gl X x) (hm : X.mg x = none) (hv : bootBuiltins x = some u) (h : Q u s)
    (hn : x ≠ "__name__" := by decide) (hd : (x == ("__debug__" : Str)) = false := by decide) : wpAny (model X.prog X.w) X.A (eval (.Name x pos) X.env) Q E s := by
  obtain ⟨mb, h1, h2⟩ := I.mod.blt
  exact Calls.Name_function_global I.ok.kind hg (Calls.loadGlobal_builtin (by rw [I.ok.glob]; exact I.mod.glob.keeps I.bk) hm (by rw [I.ok.blt]; exact h1.keeps I.bk) ((h2 x hn).trans hv) h) hd
/-- a module's constant, a class, a function, as a value -/
theorem pe_glob {x : Str} {v : V} {u : Value} {pos : Pos} (hg : Gl X x) (hm : X.mg x = some u) (r : RelV v u) (hd : (x == ("__debug__" : Str)) = false := by decide) : PE X (.Name x pos) (tC v) :=
  fun _ _ _ H _ I h => ld_glob I hg hm ⟨v, H, I, r, h⟩ hd
theorem pe_bltn {x : Str} {v : V} {u : Value} {pos : Pos} (hg : Gl X x) (hm : X.mg x = none) (hv : bootBuiltins x = some u) (r : RelV v u) (hn : x ≠ "__name__" := by decide) (hd : (x == ("__debug__" : Str)) = false := by decide) : PE X (.Name x pos) (tC v) :=
  fun _ _ _ H _ I h => ld_blt I hg hm hv ⟨v, H, I, r, h⟩ hn hd

/-! ### arithmetic -/
variable {a b : Expr} {ta tb : TE} {pos : Pos}
/-! ### comparisons -/
/-! ### and, or, not -/
variable {tA tB' : TT} {rest : List Expr}
def tAnd (t u : TT) : TT := fun σ H Q => t σ H fun c H1 => if c = true then u σ H1 Q else Q false H1
def tOr (t u : TT) : TT := fun σ H Q => t σ H fun c H1 => if c = true then Q true H1 else u σ H1 Q
def tNot (t : TT) : TT := fun σ H Q => t σ H fun c H1 => Q (!c) H1
theorem pw_and1 (ha : PT X a tA) : PW X (.BoolOp .And [a] pos) tA := by
  intro wh pins s σ H Q I h
  refine isTrue_and (thn (ha pins s σ H Q I h) fun c s1 e => ?_)
  cases c with
  | true => exact isTrue_and_nil e
  | false => exact e
theorem pw_or1 (ha : PT X a tA) : PW X (.BoolOp .Or [a] pos) tA := by
  intro wh pins s σ H Q I h
  refine isTrue_or (thn (ha pins s σ H Q I h) fun c s1 e => ?_)
  cases c with
  | false => exact isTrue_or_nil e
  | true => exact e
theorem pw_and (ha : PT X a tA) (hb : PW X (.BoolOp .And (b :: rest) pos) tB') : PW X (.BoolOp .And (a :: b :: rest) pos) (tAnd tA tB') := by
  intro wh pins s σ H Q I h
  refine isTrue_and (thn (ha pins s σ H _ I h) fun c s1 ⟨H1, I1, q1⟩ => ?_)
  cases c with
  | true => exact hb wh pins s1 σ H1 Q I1 q1
  | false => exact ⟨H1, I1, q1⟩
theorem pw_or (ha : PT X a tA) (hb : PW X (.BoolOp .Or (b :: rest) pos) tB') : PW X (.BoolOp .Or (a :: b :: rest) pos) (tOr tA tB') := by
  intro wh pins s σ H Q I h
  refine isTrue_or (thn (ha pins s σ H _ I h) fun c s1 ⟨H1, I1, q1⟩ => ?_)
  cases c with
  | true => exact ⟨H1, I1, q1⟩
  | false => exact hb wh pins s1 σ H1 Q I1 q1
theorem pt_not (ha : PT X a tA) : PT X (.UnaryOp .Not a pos) (tNot tA) := by
  intro pins s σ H Q I h
  exact isTrue_not (ha pins s σ H (fun c H1 => Q (!c) H1) I h)
/-- .. as values (bools) -/
def tAndV (ta tb : TE) : TE := fun σ H Q => ta σ H fun x H1 => ∃ c, x = .bl c ∧ if c = true then tb σ H1 Q else Q (.bl false) H1
theorem pe_one {op} {t : TE} (h : PE X a t) : PE X (.BoolOp op [a] pos) t := fun pins s σ H Q I hw => BoolOp_one (h pins s σ H Q I hw)
theorem pe_and (ha : PE X a ta) (hb : PE X (.BoolOp .And (b :: rest) pos) tb) : PE X (.BoolOp .And (a :: b :: rest) pos) (tAndV ta tb) := by
  intro pins s σ H Q I h
  refine BoolOp_and (thn (ha pins s σ H _ I h) fun v s1 ⟨x, H1, I1, r1, q1⟩ => ?_)
  obtain ⟨c, rfl, q1⟩ := q1
  cases r1
  refine wpAny_truthy_bool ?_
  cases c with
  | true => exact hb pins s1 σ H1 Q I1 q1
  | false => exact ⟨.bl false, H1, I1, rfl, q1⟩
/-- a if t else b -/
def tIf (t : TT) (ta tb : TE) : TE := fun σ H Q => t σ H fun c H1 => if c = true then ta σ H1 Q else tb σ H1 Q
theorem pe_ifExp {c : Expr} (hc : PT X c tA) (ha : PE X a ta) (hb : PE X b tb) : PE X (.IfExp c a b pos) (tIf tA ta tb) := by
  intro pins s σ H Q I h
  refine wpAny_IfExp (thn (hc pins s σ H _ I h) fun d s1 ⟨H1, I1, q1⟩ => ?_)
  cases d with
  | true => exact ha pins s1 σ H1 Q I1 q1
  | false => exact hb pins s1 σ H1 Q I1 q1
end
end L2

namespace L2
open PySem PySem.Spec PyProof.Rows

/-! ### a list, a tuple that is read: tracked, frozen, or an object of the module -/
def SqL (K : PySem.W.Frag) (H : Hp) (a : Addr) (xs : List V) : Prop :=
  Rd H a (.lst xs) ∨
    ∃ (o : Obj) (its : Array Value) (n : Nat), K.lookup a = some o ∧ o.cls = .type "list" ∧ o.dict = none ∧ o.data = .seq its n ∧ its.size ≤ sizeLine ∧ Vals xs its.toList
def SqT (K : PySem.W.Frag) (H : Hp) (a : Addr) (xs : List V) : Prop :=
  Rd H a (.tup xs) ∨
    ∃ (o : Obj) (its : Array Value) (n : Nat), K.lookup a = some o ∧ o.cls = .type "tuple" ∧ o.data = .seq its n ∧ its.size ≤ sizeLine ∧ Vals xs its.toList
def absV : Value → Option V
  | .none => some .non
  | .bool b => some (.bl b)
  | .int i _ => some (.int i)
  | .str x _ => some (.str x)
  | .bytes b _ => some (.byt b)
  | .float b _ => some (.flt b)
  | .ref a => some (.ref a)
  | .type n => some (.ty n)
  | _ => none
theorem RelV.abs {x : V} {u : Value} (r : RelV x u) : absV u = some x := by
  cases x with
  | non => cases r; rfl
  | bl _ => cases r; rfl
  | int _ => obtain ⟨t, rfl⟩ := r; rfl
  | str _ => obtain ⟨t, rfl⟩ := r; rfl
  | byt _ => obtain ⟨t, rfl⟩ := r; rfl
  | flt _ => obtain ⟨t, rfl⟩ := r; rfl
  | ref _ => cases r; rfl
  | ty _ => cases r; rfl
theorem RelV.inj {x y : V} {u : Value} (r : RelV x u) (q : RelV y u) : x = y := Option.some.inj (r.abs.symm.trans q.abs)
theorem Vals.inj : ∀ {xs ys : List V} {us : List Value}, Vals xs us → Vals ys us → xs = ys
  | _, _, _, .nil, .nil => rfl
  | _, _, _, .cons r t, .cons r' t' => by rw [r.inj r', Vals.inj t t']
section
variable {X : Cx} {pins : List (Addr × Obj)} {σ : St} {H : Hp} {s : Shared} {a : Addr} {xs ys : List V}
theorem SqL.of {K : PySem.W.Frag} (h : H a = some (.lst xs)) : SqL K H a xs := .inl (.inl h)
theorem SqT.of {K : PySem.W.Frag} (h : H a = some (.tup xs)) : SqT K H a xs := .inl (.inl h)
theorem Inv.list (I : Inv X pins σ H s) (h : SqL X.K H a xs) : ∃ its : List Value, Vals xs its ∧ PlainL s.heap a its.toArray ∧ xs.length ≤ sizeLine := by
  rcases h with h | ⟨o, its, n, hk, hc, hd, hs, hz, r⟩
  · obtain ⟨z, its, n, r, e⟩ := h.ok I.hok
    exact ⟨its, r, ⟨_, n, e, rfl, rfl, rfl⟩, z⟩
  · refine ⟨its.toList, r, ⟨o, n, I.kIn a o hk, hc, hd, by simpa using hs⟩, ?_⟩
    have e := r.length
    simp only [Array.length_toList] at e
    omega
theorem Inv.tuple (I : Inv X pins σ H s) (h : SqT X.K H a xs) : ∃ its : List Value, Vals xs its ∧ IsTup s.heap a its.toArray ∧ xs.length ≤ sizeLine := by
  rcases h with h | ⟨o, its, n, hk, hc, hs, hz, r⟩
  · obtain ⟨z, its, r, p⟩ := h.ok I.hok
    exact ⟨its, r, p, z⟩
  · refine ⟨its.toList, r, ⟨o, I.kIn a o hk, hc, n, by simpa using hs⟩, ?_⟩
    have e := r.length
    simp only [Array.length_toList] at e
    omega
theorem Inv.list_inj (I : Inv X pins σ H s) (h : SqL X.K H a xs) (h' : SqL X.K H a ys) : xs = ys := by
  obtain ⟨its, r, ⟨o, n, e, _, _, d⟩, _⟩ := I.list h
  obtain ⟨its', r', ⟨o', n', e', _, _, d'⟩, _⟩ := I.list h'
  rw [e] at e'; cases e'
  rw [d] at d'
  injection d' with d1 _
  have : its = its' := by simpa using congrArg Array.toList d1
  subst this
  exact r.inj r'
theorem Inv.tuple_inj (I : Inv X pins σ H s) (h : SqT X.K H a xs) (h' : SqT X.K H a ys) : xs = ys := by
  obtain ⟨its, r, ⟨o, e, _, n, d⟩, _⟩ := I.tuple h
  obtain ⟨its', r', ⟨o', e', _, n', d'⟩, _⟩ := I.tuple h'
  rw [e] at e'; cases e'
  rw [d] at d'
  injection d' with d1 _
  have : its = its' := by simpa using congrArg Array.toList d1
  subst this
  exact r.inj r'
end

/-! ### another wish about exceptions -/
abbrev Cx.wish (X : Cx) (E : Value → Shared → Prop) : Cx := { X with xe := E }
/-- no exception leaves -/
abbrev Cx.nox (X : Cx) : Cx := X.wish fun _ _ => False
theorem Cx.Ok.wish {X : Cx} (ok : X.Ok) (E : Value → Shared → Prop) : (X.wish E).Ok :=
  ⟨ok.mod, ok.kind, ok.glob, ok.blt, ok.above, ok.inj, ok.has, ok.cab, ok.hd, ok.frames, ok.stk, ok.exf, ok.bs, ok.bsz, ok.noex, ok.exfs, ok.funs, ok.frf⟩
theorem Cx.Ok.unwish {X : Cx} {E : Value → Shared → Prop} (ok : (X.wish E).Ok) : X.Ok :=
  ⟨ok.mod, ok.kind, ok.glob, ok.blt, ok.above, ok.inj, ok.has, ok.cab, ok.hd, ok.frames, ok.stk, ok.exf, ok.bs, ok.bsz, ok.noex, ok.exfs, ok.funs, ok.frf⟩
section
variable {X : Cx} {pins : List (Addr × Obj)} {σ : St} {H : Hp} {s : Shared} {E : Value → Shared → Prop}
theorem Inv.wish (I : Inv X pins σ H s) (E : Value → Shared → Prop) : Inv (X.wish E) pins σ H s := ⟨I.ok.wish E, I.os, I.bare, I.base, I.loc, I.cell, I.free, I.freeC, I.pin, I.hok, I.len⟩
theorem Inv.unwish (I : Inv (X.wish E) pins σ H s) : Inv X pins σ H s := ⟨I.ok.unwish, I.os, I.bare, I.base, I.loc, I.cell, I.free, I.freeC, I.pin, I.hok, I.len⟩
theorem SP.unwish {D : Ends} {f : Flow} {s' : Shared} (h : SP (X.wish E) pins D f s') : SP X pins D f s' := by
  cases f with
  | next => obtain ⟨σ', H', I, q⟩ := h; exact ⟨σ', H', I.unwish, q⟩
  | brk => obtain ⟨σ', H', I, q⟩ := h; exact ⟨σ', H', I.unwish, q⟩
  | cont => obtain ⟨σ', H', I, q⟩ := h; exact ⟨σ', H', I.unwish, q⟩
  | ret u => obtain ⟨v, σ', H', I, r, q⟩ := h; exact ⟨v, σ', H', I.unwish, r, q⟩
theorem PSs.nox {st : List Stmt} {t : TS} (h : PSs X.nox st t) : PSs X st t := fun pins s σ H D I hw =>
  wpAny_mono (h pins s σ H D (I.wish _) hw) (fun _ _ q => q.unwish) fun _ _ z => False.elim z
end

/-! ### blocks and small statements -/
section
variable {X : Cx} {st : Stmt} {rest : List Stmt} {t u : TS} {e : Expr} {te : TE} {pos : Pos}
def tNext : TS := fun D σ H => D.nx σ H
def tSeq (t u : TS) : TS := fun D σ H => t { D with nx := u D } σ H
theorem pss_nil : PSs X [] tNext := fun _ _ σ H _ I h => wpAny_execs_nil ⟨σ, H, I, h⟩
theorem pss_cons (h1 : PS X st t) (h2 : PSs X rest u) : PSs X (st :: rest) (tSeq t u) := by
  intro pins s σ H D I h
  refine wpAny_execs_cons (thn (h1 pins s σ H { D with nx := u D } I h) fun f s1 q => ?_)
  cases f with
  | next =>
    obtain ⟨σ', H', I', q⟩ := q
    exact h2 pins s1 σ' H' D I' q
  | ret v => exact q
  | brk => exact q
  | cont => exact q
theorem pss_one (h1 : PS X st t) : PSs X [st] t := by
  intro pins s σ H D I h
  refine wpAny_execs_cons (thn (h1 pins s σ H D I h) fun f s1 q => ?_)
  cases f with
  | next => exact wpAny_execs_nil q
  | ret v => exact q
  | brk => exact q
  | cont => exact q
/-- in a def's body nothing is shown -/
theorem Inv.quiet {pins : List (Addr × Obj)} {σ : St} {H : Hp} {s : Shared} (I : Inv X pins σ H s) : interactive X.env = false := by simp [interactive, I.ok.kind]
/-- an expression whose value is dropped -/
def tDrop (te : TE) : TS := fun D σ H => te σ H fun _ H1 => D.nx σ H1
theorem ps_expr (he : PE X e te) (hs : swapsWith e none pos.line X.env = pure false := by rfl) : PS X (.Expr e pos) (tDrop te) := by
  intro pins s σ H D I h
  exact wpAny_Expr_any (thn (he pins s σ H _ I h) fun v s1 ⟨x, H1, I1, r1, q1⟩ => ⟨σ, H1, I1, q1⟩) I.quiet hs
def tRet (te : TE) : TS := fun D σ H => te σ H D.rt
theorem ps_ret (he : PE X e te) : PS X (.Return (some e) pos) (tRet te) := by
  intro pins s σ H D I h
  exact wpAny_Return_some (thn (he pins s σ H _ I h) fun v s1 ⟨x, H1, I1, r1, q1⟩ => ⟨x, σ, H1, I1, r1, q1⟩)
def tIfS (c : TT) (t u : TS) : TS := fun D σ H => c σ H fun b H1 => if b = true then t D σ H1 else u D σ H1
theorem ps_if {c : Expr} {a b : List Stmt} {tc : TT} (hc : PT X c tc) (ha : PSs X a t) (hb : PSs X b u) : PS X (.If c a b pos) (tIfS tc t u) := by
  intro pins s σ H D I h
  refine wpAny_If (thn (hc pins s σ H _ I h) fun d s1 ⟨H1, I1, q1⟩ => ?_)
  cases d with
  | true => exact ha pins s1 σ H1 D I1 q1
  | false => exact hb pins s1 σ H1 D I1 q1
end

/-! ### targets -/
abbrev TG := V → St → Hp → (St → Hp → Prop) → Prop
abbrev TGs := List V → St → Hp → (St → Hp → Prop) → Prop
def PG (X : Cx) (target : Expr) (t : TG) : Prop :=
  ∀ (pins : List (Addr × Obj)) (s : Shared) (σ : St) (H : Hp) (v : V) (u : Value) (Q : St → Hp → Prop), Inv X pins σ H s → RelV v u → t v σ H Q →
    wpAny (model X.prog X.w) X.A (assign target X.env u) (fun _ s' => ∃ σ' H', Inv X pins σ' H' s' ∧ Q σ' H') X.xe s
/-- several targets, one after another -/
def PGs (X : Cx) (ts : List Expr) (t : TGs) : Prop :=
  ∀ (pins : List (Addr × Obj)) (s : Shared) (σ : St) (H : Hp) (vs : List V) (us : List Value) (Q : St → Hp → Prop), Inv X pins σ H s → Vals vs us → t vs σ H Q →
    wpAny (model X.prog X.w) X.A (assignInOrder ((assignEach ts X.env).map (·.2)) us) (fun _ s' => ∃ σ' H', Inv X pins σ' H' s' ∧ Q σ' H') X.xe s
/-- o[i] = v, by values -/
abbrev TSet := V → V → V → Hp → (Hp → Prop) → Prop
def PSet (X : Cx) (t : TSet) : Prop :=
  ∀ (pins : List (Addr × Obj)) (s : Shared) (σ : St) (H : Hp) (o i v : V) (ov iv u : Value) (Q : Hp → Prop), Inv X pins σ H s → RelV o ov → RelV i iv → RelV v u → t o i v H Q →
    wpAny (model X.prog X.w) X.A (setItem ov iv u) (fun _ s' => ∃ H', Inv X pins σ H' s' ∧ Q H') X.xe s
section
variable {X : Cx} {pos : Pos}
def gName (i : Nat) : TG := fun v σ H Q => Q (σ.set i (some v)) H
theorem pg_name {i : Nat} {x : Str} (hN : X.N.Nodup) (hi : X.N[i]? = some x) (hx : Loc X.env.scope x) (hf : X.fn x = true ∨ X.env.scope.names.lookup x = some .local := by first | exact .inl rfl | exact .inr rfl | assumption) : PG X (.Name x pos) (gName i) := by
  intro pins s σ H v u Q I r h
  exact wpAny_assign_Name (store_ok I hN hi hx r (fun s' I' => ⟨_, H, I', h⟩) hf)
def gNil : TGs := fun vs σ H Q => vs = [] ∧ Q σ H
def gCons (t : TG) (u : TGs) : TGs := fun vs σ H Q => ∃ v r, vs = v :: r ∧ t v σ H fun σ' H' => u r σ' H' Q
theorem pgs_nil : PGs X [] gNil := by
  intro pins s σ H vs us Q I r h
  obtain ⟨e, h⟩ := h
  subst e
  cases r
  exact assignInOrder_nil ⟨σ, H, I, h⟩
theorem pgs_cons {e : Expr} {es : List Expr} {t : TG} {u : TGs} (h1 : PG X e t) (h2 : PGs X es u)
    (hs : (assignEach (e :: es) X.env).map (·.2) = assign e X.env :: (assignEach es X.env).map (·.2) := by rfl) : PGs X (e :: es) (gCons t u) := by
  intro pins s σ H vs us Q I r h
  obtain ⟨v, vr, e1, h⟩ := h
  subst e1
  cases r with
  | cons r rr =>
    rw [hs]
    refine assignInOrder_cons (thn (h1 pins s σ H _ _ _ I r h) fun _ s1 ⟨σ1, H1, I1, q1⟩ => ?_)
    exact h2 pins s1 σ1 H1 _ _ Q I1 rr q1
/-- (a, b, ..) = a tuple of that length -/
def gTup (K : PySem.W.Frag) (n : Nat) (t : TGs) : TG := fun v σ H Q => ∃ a xs, v = .ref a ∧ SqT K H a xs ∧ xs.length = n ∧ t xs σ H Q
theorem pg_tup {es : List Expr} {k : Nat} {t : TGs} {n : Nat} (hc : X.calm = true) (h : PGs X es t)
    (hn : (assignEach es X.env).length = n := by rfl) (hst : (assignEach es X.env).findIdx? (·.1) = none := by rfl) : PG X (.Tuple es k pos) (gTup X.K n t) := by
  intro pins s σ H v u Q I r hw
  obtain ⟨a, xs, e1, hq, hl, hw⟩ := hw
  subst e1
  cases r
  obtain ⟨its, rv, ht, hz⟩ := I.tuple hq
  refine assign_Tuple_tuple (I.ok.hd hc) ht (by simp [hn, ← hl, rv.length]) hst fun h' hx => ?_
  have I1 : Inv X pins σ H { s with heap := h' } := I.kept (t' := s.toks) fun b o e => hx b o (Nat.ne_of_lt (Heap.lt_size e)) e
  exact h pins _ σ H xs _ Q I1 (by simpa using rv) hw
/-- o[i] = .. -/
def gSub (to ti : TE) (t : TSet) : TG := fun v σ H Q => to σ H fun o H1 => ti σ H1 fun i H2 => t o i v H2 fun H3 => Q σ H3
theorem pg_sub {o i : Expr} {to ti : TE} {t : TSet} (ho : PE X o to) (hi : PE X i ti) (hs : PSet X t)
    (ha : ∀ v, assign (.Subscript o i pos) X.env v = (do
      let ov ← holding [v] (eval o X.env)
      let iv ← holding [v, ov] (eval i X.env)
      standAt pos
      holding [v, ov, iv] (setItem ov iv v)
      release [v, ov, iv] []) := by intro _; rfl) : PG X (.Subscript o i pos) (gSub to ti t) := by
  intro pins s σ H v u Q I r h
  rw [ha]
  refine wpAny_bind (wpAny_holding (thn (ho pins s σ H _ I h) fun ov s1 ⟨x, H1, I1, r1, q1⟩ => ?_))
  refine wpAny_bind (wpAny_holding (thn (hi pins s1 σ H1 _ I1 q1) fun iv s2 ⟨y, H2, I2, r2, q2⟩ => ?_))
  refine wpAny_bind (wpAny_standAt (wpAny_bind (wpAny_holding (thn (hs pins s2 σ H2 x y v ov iv u _ I2 r1 r2 r q2) fun _ s3 ⟨H3, I3, q3⟩ => ?_))))
  exact wpAny_release ⟨σ, H3, I3, q3⟩
/-- target = value -/
def tAsg (te : TE) (g : TG) : TS := fun D σ H => te σ H fun x H1 => g x σ H1 D.nx
theorem ps_asg {tg e : Expr} {te : TE} {g : TG} (he : PE X e te) (hg : PG X tg g) (hs : swapsWithSole [tg] e pos.line X.env = pure false := by rfl) (hw : swappedStores [tg] e X.env = pure none := by rfl)
    (h1 : (assignEach [tg] X.env).map (·.2) = [assign tg X.env] := by rfl) : PS X (.Assign [tg] e pos) (tAsg te g) := by
  intro pins s σ H D I h
  refine wpAny_Assign_stores (thn (he pins s σ H _ I h) fun v s1 ⟨x, H1, I1, r1, q1⟩ => ?_) hs hw
  rw [h1]
  exact thn (hg pins s1 σ H1 x v _ I1 r1 q1) fun _ s2 q => q
/-- name = value -/
theorem ps_set {i : Nat} {x : Str} {e : Expr} {te : TE} {pos' : Pos} (hN : X.N.Nodup) (hi : X.N[i]? = some x) (hx : Loc X.env.scope x) (he : PE X e te) (hs : swapsWith e (some (.Name x pos')) pos.line X.env = pure false := by rfl) (hf : X.fn x = true ∨ X.env.scope.names.lookup x = some .local := by first | exact .inl rfl | exact .inr rfl | assumption) :
    PS X (.Assign [.Name x pos'] e pos) (tAsg te (gName i)) := by
  intro pins s σ H D I h
  refine wpAny_Assign_Name (thn (he pins s σ H _ I h) fun v s1 ⟨y, H1, I1, r1, q1⟩ => ?_) hs
  exact store_ok I1 hN hi hx r1 (fun s2 I2 => ⟨_, H1, I2, q1⟩) hf
end

/-! ### while -/
section
variable {X : Cx} {pos : Pos}
end

/-! ### what a loop or a comprehension walks -/
/-- at turn i: it yields x (the heap may grow), or it stops -/
structure It where
  go : Nat → Hp → Prop
  yld : Nat → Hp → V → Hp → Prop
  stop : Nat → Hp → Prop
/-- the iterator's own objects may turn: they are not the frame's, not pinned, younger than the entry (or a comprehension's own) -/
def FpOk (X : Cx) (pins : List (Addr × Obj)) (H : Hp) (b : Addr) : Prop :=
  H b = none ∧ b ≠ X.env.locals ∧ b ∉ X.fs ∧ (b ∈ X.ex ∨ X.s₀.heap.objs.size ≤ b) ∧ (∀ x c, X.env.cells.lookup x = some c → c ≠ b) ∧ ∀ p ∈ X.pn ++ pins, p.1 ≠ b
theorem Inv.fpOk {X : Cx} {pins : List (Addr × Obj)} {σ : St} {H H' : Hp} {s : Shared} {b : Addr} (I : Inv X pins σ H s) (hb : s.heap.objs.size ≤ b) (hn : H' b = none) : FpOk X pins H' b := by
  refine ⟨hn, Nat.ne_of_gt (Nat.lt_of_lt_of_le I.lt hb), I.nofs hb, .inr (Nat.le_trans I.sz hb), fun x c e z => ?_, fun p hp z => ?_⟩
  · obtain ⟨v, q⟩ := I.cell x c e
    exact absurd (Nat.lt_of_lt_of_le q.lt (by rw [z]; exact hb)) (Nat.lt_irrefl _)
  · exact absurd (Nat.lt_of_lt_of_le (Heap.lt_size (I.pin p hp).1) (by rw [z]; exact hb)) (Nat.lt_irrefl _)
structure Turn (P : Program) (w : World) (K : PySem.W.Frag) (tg : Expr) (J : It) (fp : List Addr) (it : Addr) (tn : Nat → Heap → Prop) : Prop where
  mem : it ∈ fp
  obj : ∀ i h, tn i h → ∀ b ∈ fp, ∃ o, h.get? b = some o ∧ ∀ v, o.data ≠ .cell v
  keep : ∀ i h h', tn i h → (∀ b ∈ fp, ∀ o, h.get? b = some o → h'.get? b = some o) → tn i h'
  item : ∀ (X : Cx), X.prog = P → X.w = w → X.K = K → X.calm = true → ∀ (i : Nat) (pins : List (Addr × Obj)) (s : Shared) (σ : St) (H : Hp) (E : Value → Shared → Prop), Inv X pins σ H s → (∀ b ∈ fp, FpOk X pins H b) → tn i s.heap → J.go i H →
    wpAny (model P w) X.A (pyNext (.ref it)) (fun r s1 => ∃ u, r = some u ∧
      wpAny (model P w) X.A (letOwnedTupleGo tg (.ref it) u) (fun _ s2 => ∃ x H', Inv X pins σ H' s2 ∧ RelV x u ∧ J.yld i H x H' ∧ tn (i + 1) s2.heap ∧ ∀ b ∈ fp, H' b = none) E s1) E s
  done : ∀ (X : Cx), X.prog = P → X.w = w → X.K = K → X.calm = true → ∀ (i : Nat) (pins : List (Addr × Obj)) (s : Shared) (σ : St) (H : Hp) (E : Value → Shared → Prop), Inv X pins σ H s → (∀ b ∈ fp, FpOk X pins H b) → tn i s.heap → J.stop i H →
    wpAny (model P w) X.A (pyNext (.ref it)) (fun r s1 => r = none ∧ Inv X pins σ H s1) E s
  self : ∀ (A : Around) (i : Nat) (s : Shared) (Q : Value → Shared → Prop) (E : Value → Shared → Prop), tn i s.heap → Q (.ref it) s → wpAny (model P w) A (pyIter (.ref it)) Q E s
abbrev TI := St → Hp → (It → Hp → Prop) → Prop
/-- an iterator has come -/
def PIE (X : Cx) (pins : List (Addr × Obj)) (σ : St) (tg : Expr) (R : It → Hp → Prop) (itv : Value) (s2 : Shared) : Prop :=
  ∃ (it : Addr) (fp : List Addr) (tn : Nat → Heap → Prop) (J : It) (H' : Hp), itv = .ref it ∧ Inv X pins σ H' s2 ∧ Turn X.prog X.w X.K tg J fp it tn ∧ tn 0 s2.heap ∧ (∀ b ∈ fp, FpOk X pins H' b) ∧ R J H'
def PI (X : Cx) (tg iter : Expr) (wi : TI) : Prop :=
  ∀ (pins : List (Addr × Obj)) (s : Shared) (σ : St) (H : Hp) (R : It → Hp → Prop), Inv X pins σ H s → wi σ H R →
    wpAny (model X.prog X.w) X.A (eval iter X.env) (fun v s1 => wpAny (model X.prog X.w) X.A (pyIter v) (PIE X pins σ tg R) X.xe s1) X.xe s

/-- the step ahead of the store is nothing for an iterator that keeps no tuple -/
theorem go_of {M : Model} {A : Around} {E : Value → Shared → Prop} {s : Shared} {tg : Expr} {it : Addr} {u : Value} {o : Obj} {n : String} {vs : Array Value} {Q : Unit → Shared → Prop} (ho : s.heap.get? it = some o) (hc : o.cls = .type n) (hd : o.data = .fields vs)
    (hn : ["enumerate", "zip", "dict_itemiterator", "dict_reverseitemiterator", "odict_iterator", "itertools.zip_longest", "itertools.pairwise"].contains n = false) (hQ : Q () s) : wpAny M A (letOwnedTupleGo tg (.ref it) u) Q E s := by
  unfold letOwnedTupleGo
  cases tg <;> first
    | exact wpAny_pure hQ
    | (cases u <;> first
        | exact wpAny_pure hQ
        | (refine wpAny_bind (wpAny_load ho ?_)
           rw [hc, hd]
           show wpAny M A (if (["enumerate", "zip", "dict_itemiterator", "dict_reverseitemiterator", "odict_iterator", "itertools.zip_longest", "itertools.pairwise"].contains n && vs[0]? == some (rawInt _)) = true then _ else _) Q E s
           rw [if_neg (by intro h; rw [hn, Bool.false_and] at h; cases h)]
           exact wpAny_pure hQ))

/-- the list at a, as it stands at each turn (a loop may append to it) -/
def Itl (K : PySem.W.Frag) (a : Addr) : It :=
  ⟨fun i H => ∃ xs x, SqL K H a xs ∧ xs[i]? = some x, fun i H x H' => H' = H ∧ ∀ xs, SqL K H a xs → xs[i]? = some x, fun i H => ∃ xs, SqL K H a xs ∧ xs.length ≤ i⟩
def Itt (K : PySem.W.Frag) (a : Addr) : It :=
  ⟨fun i H => ∃ xs x, SqT K H a xs ∧ xs[i]? = some x, fun i H x H' => H' = H ∧ ∀ xs, SqT K H a xs → xs[i]? = some x, fun i H => ∃ xs, SqT K H a xs ∧ xs.length ≤ i⟩
/-- lo, lo + 1, .. (n of them) -/
def Itr (lo : Int) (n : Nat) : It := ⟨fun i _ => i < n, fun i H x H' => H' = H ∧ x = .int (lo + i), fun i _ => n ≤ i⟩
theorem turn_list {P : Program} {w : World} {K : PySem.W.Frag} {tg : Expr} (a it : Addr) : Turn P w K tg (Itl K a) [it] it (fun i h => h.IsListIter it a i) where
  mem := by simp
  obj := fun i h st b hb => by
    have e : b = it := by simpa using hb
    subst e
    obtain ⟨o, e, c, d⟩ := st
    exact ⟨o, e, fun v z => by rw [d] at z; cases z⟩
  keep := fun i h h' st k => st.at fun o e => k it (by simp) o e
  item := by
    intro X hP hw hK hc i pins s σ H E I hf st hg
    subst hP hw hK
    obtain ⟨xs, x, hq, hx⟩ := hg
    obtain ⟨its, rv, p, hz⟩ := I.list hq
    obtain ⟨u, hu, ru⟩ := rv.get hx
    obtain ⟨f0, f1, f2, f3, f4, f5⟩ := hf it (by simp)
    refine wpAny_pyNext_list_item st p.isList (x := u) (by simpa using hu) fun h' st' sb => ?_
    have I1 : Inv X pins σ H { s with heap := h' } := I.turned (t' := s.toks) (fun b o hb e => (sb.2 b hb).trans e) f0 f1 f3 f4 f5
    obtain ⟨o, e, c, d⟩ := id st'
    exact ⟨u, rfl, go_of (s := { s with heap := h' }) e c d (by decide) ⟨x, H, I1, ru, ⟨rfl, fun ys hy => by rw [I.list_inj hy hq]; exact hx⟩, st', fun b hb => (hf b hb).1⟩⟩
  done := by
    intro X hP hw hK hc i pins s σ H E I hf st hg
    subst hP hw hK
    obtain ⟨xs, hq, hx⟩ := hg
    obtain ⟨its, rv, p, hz⟩ := I.list hq
    obtain ⟨f0, f1, f2, f3, f4, f5⟩ := hf it (by simp)
    have hl := rv.length
    exact wpAny_pyNext_list_end (I.ok.hd hc) st p.isList (by simp; omega) fun h' eb => ⟨rfl, I.turned (t' := s.toks) (fun b o hb e => eb b o hb e) f0 f1 f3 f4 f5⟩
  self := fun _ _ _ _ _ st h => wpAny_pyIter_listiter st h
theorem turn_tuple {P : Program} {w : World} {K : PySem.W.Frag} {tg : Expr} (a it : Addr) : Turn P w K tg (Itt K a) [it] it (fun i h => h.IsTupleIter it a i) where
  mem := by simp
  obj := fun i h st b hb => by
    have e : b = it := by simpa using hb
    subst e
    obtain ⟨o, e, c, d⟩ := st
    exact ⟨o, e, fun v z => by rw [d] at z; cases z⟩
  keep := fun i h h' st k => st.at fun o e => k it (by simp) o e
  item := by
    intro X hP hw hK hc i pins s σ H E I hf st hg
    subst hP hw hK
    obtain ⟨xs, x, hq, hx⟩ := hg
    obtain ⟨its, rv, p, hz⟩ := I.tuple hq
    obtain ⟨u, hu, ru⟩ := rv.get hx
    obtain ⟨f0, f1, f2, f3, f4, f5⟩ := hf it (by simp)
    refine wpAny_pyNext_tuple_item st (show s.heap.IsTuple a its.toArray from p) (x := u) (by simpa using hu) fun h' st' sb => ?_
    have I1 : Inv X pins σ H { s with heap := h' } := I.turned (t' := s.toks) (fun b o hb e => (sb.2 b hb).trans e) f0 f1 f3 f4 f5
    obtain ⟨o, e, c, d⟩ := id st'
    exact ⟨u, rfl, go_of (s := { s with heap := h' }) e c d (by decide) ⟨x, H, I1, ru, ⟨rfl, fun ys hy => by rw [I.tuple_inj hy hq]; exact hx⟩, st', fun b hb => (hf b hb).1⟩⟩
  done := by
    intro X hP hw hK hc i pins s σ H E I hf st hg
    subst hP hw hK
    obtain ⟨xs, hq, hx⟩ := hg
    obtain ⟨its, rv, p, hz⟩ := I.tuple hq
    obtain ⟨f0, f1, f2, f3, f4, f5⟩ := hf it (by simp)
    have hl := rv.length
    exact wpAny_pyNext_tuple_end (I.ok.hd hc) st (show s.heap.IsTuple a its.toArray from p) (by simp; omega) fun h' eb => ⟨rfl, I.turned (t' := s.toks) (fun b o hb e => eb b o hb e) f0 f1 f3 f4 f5⟩
  self := fun _ _ _ _ _ st h => wpAny_pyIter_tupleiter st h
theorem turn_range {P : Program} {w : World} {K : PySem.W.Frag} {tg : Expr} (it : Addr) (lo : Int) (n : Nat) : Turn P w K tg (Itr lo n) [it] it (fun i h => IsRangeIter h it (lo + (i : Nat) * 1) ((n : Int) - (i : Nat)) 1) where
  mem := by simp
  obj := fun i h st b hb => by
    have e : b = it := by simpa using hb
    subst e
    exact ⟨_, st, fun v z => by
      have z' : Data.fields _ = Data.cell v := z
      cases z'⟩
  keep := fun i h h' st k => k it (by simp) _ st
  item := by
    intro X hP hw hK hc i pins s σ H E I hf st hg
    subst hP hw hK
    obtain ⟨f0, f1, f2, f3, f4, f5⟩ := hf it (by simp)
    have W := Walks.range (prog := X.prog) (w := X.w) (I.ok.hd hc) it lo 1 n
    refine W.item i s _ _ hg st fun v h' tk hv st' kk => ?_
    obtain ⟨t, rfl⟩ := hv
    have I1 : Inv X pins σ H { s with heap := h', toks := tk } := I.turned (fun b o hb e => kk b o (by simpa using hb) e) f0 f1 f3 f4 f5
    refine ⟨_, rfl, go_of (s := { s with heap := h', toks := tk }) (n := "range_iterator") st' rfl rfl (by decide) ⟨.int (lo + i), H, I1, ⟨t, ?_⟩, ⟨rfl, rfl⟩, st', fun b hb => (hf b hb).1⟩⟩
    rw [Int.mul_one]
  done := by
    intro X hP hw hK hc i pins s σ H E I hf st hg
    subst hP hw hK
    obtain ⟨f0, f1, f2, f3, f4, f5⟩ := hf it (by simp)
    exact wpAny_pyNext_range_end (I.ok.hd hc) st (by have : n ≤ i := hg; omega) fun h' eb => ⟨rfl, I.turned (t' := s.toks) (fun b o hb e => eb b o hb e) f0 f1 f3 f4 f5⟩
  self := fun _ _ _ _ _ st h => wpAny_pyIter_rangeiter st h
end L2

namespace L2
open PySem PySem.Spec PyProof.Rows
section
variable {X : Cx} {tg : Expr}
def iList (K : PySem.W.Frag) (tl : TE) : TI := fun σ H R => tl σ H fun x H1 => ∃ a, x = .ref a ∧ (∃ xs, SqL K H1 a xs) ∧ R (Itl K a) H1
def iTup (K : PySem.W.Frag) (tl : TE) : TI := fun σ H R => tl σ H fun x H1 => ∃ a, x = .ref a ∧ (∃ xs, SqT K H1 a xs) ∧ R (Itt K a) H1
theorem pi_list {l : Expr} {tl : TE} (hl : PE X l tl) : PI X tg l (iList X.K tl) := by
  intro pins s σ H R I h
  refine thn (hl pins s σ H _ I h) fun v s1 ⟨x, H1, I1, r1, q1⟩ => ?_
  obtain ⟨a, e, ⟨xs, hq⟩, q⟩ := q1
  subst e
  cases r1
  obtain ⟨its, rv, p, hz⟩ := I1.list hq
  refine wpAny_pyIter_list p.isList ?_
  refine ⟨s1.heap.objs.size, [s1.heap.objs.size], _, _, H1, rfl, I1.kept (t' := s1.toks) fun b o e => Heap.get?_push_of_some _ e, turn_list a _, ⟨_, Heap.get?_push_size _ rfl, rfl, rfl⟩, fun b hb => ?_, q⟩
  have e : b = s1.heap.objs.size := by simpa using hb
  subst e
  exact I1.fpOk (Nat.le_refl _) (I1.hok.fresh (Nat.le_refl _))
theorem pi_tup {l : Expr} {tl : TE} (hl : PE X l tl) : PI X tg l (iTup X.K tl) := by
  intro pins s σ H R I h
  refine thn (hl pins s σ H _ I h) fun v s1 ⟨x, H1, I1, r1, q1⟩ => ?_
  obtain ⟨a, e, ⟨xs, hq⟩, q⟩ := q1
  subst e
  cases r1
  obtain ⟨its, rv, p, hz⟩ := I1.tuple hq
  refine wpAny_pyIter_tuple (show s1.heap.IsTuple a its.toArray from p) ?_
  refine ⟨s1.heap.objs.size, [s1.heap.objs.size], _, _, H1, rfl, I1.kept (t' := s1.toks) fun b o e => Heap.get?_push_of_some _ e, turn_tuple a _, ⟨_, Heap.get?_push_size _ rfl, rfl, rfl⟩, fun b hb => ?_, q⟩
  have e : b = s1.heap.objs.size := by simpa using hb
  subst e
  exact I1.fpOk (Nat.le_refl _) (I1.hok.fresh (Nat.le_refl _))
/-- a range object just made, walked -/
theorem range_it {pins : List (Addr × Obj)} {σ : St} {H : Hp} {s : Shared} {R : It → Hp → Prop} {E : Value → Shared → Prop} {lo hi : Int} {t u v : Tok} {tk : Nat} (I : Inv X pins σ H s) (h1 : -(2 ^ 62) ≤ lo) (h2 : lo < 2 ^ 62) (h3 : -(2 ^ 62) ≤ hi) (h4 : hi < 2 ^ 62)
    (q : R (Itr lo (hi - lo).toNat) H) : wpAny (model X.prog X.w) X.A (pyIter (.ref s.heap.objs.size)) (PIE X pins σ tg R) E { s with heap := s.heap.push { cls := .type "range", data := .fields #[.int lo t, .int hi u, .int 1 v] }, toks := tk } := by
  refine wpAny_pyIter_range (IsRange.new ..) (small_one h1 h2 h3 h4) ?_
  have I1 : Inv X pins σ H { s with heap := s.heap.push { cls := .type "range", data := .fields #[.int lo t, .int hi u, .int 1 v] }, toks := tk } := I.kept fun b o e => Heap.get?_push_of_some _ e
  refine ⟨(s.heap.push { cls := .type "range", data := .fields #[.int lo t, .int hi u, .int 1 v] }).objs.size, [(s.heap.push { cls := .type "range", data := .fields #[.int lo t, .int hi u, .int 1 v] }).objs.size], _, _, H, rfl,
    I1.kept (t' := tk) fun b o e => Heap.get?_push_of_some _ e, turn_range _ lo (hi - lo).toNat, ?_, fun b hb => ?_, q⟩
  · have e1 : lo + ((0 : Nat) : Int) * 1 = lo := by simp
    have e2 : (((hi - lo).toNat : Nat) : Int) - ((0 : Nat) : Int) = Builtin.Range.rangeSize lo hi 1 := by rw [rangeSize_one]; split <;> omega
    show IsRangeIter _ _ (lo + ((0 : Nat) : Int) * 1) ((((hi - lo).toNat : Nat) : Int) - ((0 : Nat) : Int)) 1
    rw [e1, e2]
    exact Heap.get?_push_size _ rfl
  · have e : b = (s.heap.push { cls := .type "range", data := .fields #[.int lo t, .int hi u, .int 1 v] }).objs.size := by simpa using hb
    subst e
    exact I1.fpOk (Nat.le_refl _) (I1.hok.fresh (Nat.le_refl _))
def iRng1 (ta : TA) : TI := fun σ H R => ta σ H fun vs H1 => ∃ j : Int, vs = [.int j] ∧ -(2 ^ 62) ≤ j ∧ j < 2 ^ 62 ∧ R (Itr 0 j.toNat) H1
theorem pi_range1 {a : Expr} {ta : TA} {p pos : Pos} (hg : Gl X "range") (hm : X.mg "range" = none) (ha : PA X [a] ta) (hs : starEach [a] X.env = [(false, eval a X.env)] := by rfl) : PI X tg (.Call (.Name "range" p) [a] [] pos) (iRng1 ta) := by
  intro pins s σ H R I h
  refine Call_ (ld_blt I hg hm boot_range (PyProof.Rows.callWith_type1 (thn (ha pos pins s σ H _ I h) fun us s1 ⟨vs, H1, I1, r1, q1⟩ => ?_) hs rfl))
  obtain ⟨j, e, q1, q2, q⟩ := q1
  subst e
  cases r1 with
  | cons r rr =>
    cases rr
    obtain ⟨t, rfl⟩ := r
    exact call_range_1 (range_it I1 (by omega) (by omega) q1 q2 (by simpa using q))
/-! ### for -/
/-- W: the invariant by the turn and a measure; N: what the body is to reach -/
def tFor (wi : TI) (g : TG) (tb : TS) : TS := fun D σ H => wi σ H fun J H1 => ∃ W : Nat → Nat → St → Hp → Prop, (∃ m, W 0 m σ H1) ∧ ∀ i m σ H, W i m σ H →
  (J.stop i H ∧ D.nx σ H) ∨ (J.go i H ∧ ∃ N : St → Hp → Prop, (∀ σ' H', N σ' H' → ∃ m', m' < m ∧ W (i + 1) m' σ' H') ∧ ∀ x H', J.yld i H x H' → g x σ H' fun σ2 H2 => tb { D with nx := N, ct := N, bk := D.nx } σ2 H2)
/-- the records at fp as they stand -/
def pinsAt (fp : List Addr) (h : Heap) : List (Addr × Obj) := fp.filterMap fun b => (h.get? b).map fun o => (b, o)
theorem mem_pinsAt {fp : List Addr} {h : Heap} {b : Addr} {o : Obj} (hb : b ∈ fp) (e : h.get? b = some o) : (b, o) ∈ pinsAt fp h := List.mem_filterMap.mpr ⟨b, hb, by rw [e]; rfl⟩
theorem of_pinsAt {fp : List Addr} {h : Heap} {p : Addr × Obj} (hp : p ∈ pinsAt fp h) : p.1 ∈ fp ∧ h.get? p.1 = some p.2 := by
  obtain ⟨b, hb, e⟩ := List.mem_filterMap.mp hp
  cases q : h.get? b with
  | none => rw [q] at e; cases e
  | some o =>
    rw [q] at e
    have e' : (b, o) = p := Option.some.inj e
    subst e'
    exact ⟨hb, q⟩
theorem Inv.pinned {pins : List (Addr × Obj)} {σ : St} {H : Hp} {s : Shared} {fp : List Addr} (I : Inv X pins σ H s) (hf : ∀ b ∈ fp, FpOk X pins H b) (ho : ∀ b ∈ fp, ∃ o, s.heap.get? b = some o ∧ ∀ v, o.data ≠ .cell v) : Inv X (pins ++ pinsAt fp s.heap) σ H s :=
  I.pins_of fun p hp => (List.mem_append.mp hp).elim (fun z => I.pin p (List.mem_append_right _ z)) fun z => by
    obtain ⟨hb, e⟩ := of_pinsAt z
    obtain ⟨f0, f1, f2, _⟩ := hf p.1 hb
    obtain ⟨o, e', d⟩ := ho p.1 hb
    rw [e] at e'; cases e'
    exact ⟨e, f0, f1, f2, d⟩
theorem Inv.unpinned {pins pl : List (Addr × Obj)} {σ : St} {H : Hp} {s : Shared} (I : Inv X (pins ++ pl) σ H s) : Inv X pins σ H s := I.pins_of fun p hp => I.pin p (List.mem_append_right _ (List.mem_append_left _ hp))
theorem ps_for {iter : Expr} {body : List Stmt} {wi : TI} {g : TG} {tb : TS} {pos : Pos} (hp : PassesOwn (model X.prog X.w) X.A X.env X.xe) (hc : X.calm = true) (hi : PI X tg iter wi) (hg : PG X tg g) (hb : PSs X body tb)
    (hs : ∀ x, foldedSetIterable iter X.env x = pure x := by intro _; rfl) : PS X (.For tg iter body [] pos) (tFor wi g tb) := by
  intro pins s σ H D I h
  refine wpAny_For (thn (hi pins s σ H _ I h) fun v s1 h1 => thn h1 fun itv s2 h2 => ?_) hs
  obtain ⟨it, fp, tn, J, H2, e, I2, T, st2, f2, W, ⟨m0, w0⟩, turn⟩ := h2
  subst e
  have stat : ∀ {H' : Hp}, (∀ b ∈ fp, H' b = none) → ∀ b ∈ fp, FpOk X pins H' b := fun hn b hb => ⟨hn b hb, (f2 b hb).2⟩
  refine codeAny_forLoop_any (fun n s' => ∃ i σ' H', Inv X pins σ' H' s' ∧ tn i s'.heap ∧ (∀ b ∈ fp, H' b = none) ∧ W i n σ' H') ?_ m0 ⟨0, σ, H2, I2, st2, fun b hb => (f2 b hb).1, w0⟩
  rintro n s3 ⟨i, σ3, H3, I3, st3, fr3, w3⟩
  rcases turn i n σ3 H3 w3 with ⟨stop, qn⟩ | ⟨go, N, hN, step⟩
  · refine wpAny_passesOwn hp (thn (T.done X rfl rfl rfl hc i pins s3 σ3 H3 X.xe I3 (stat fr3) st3 stop) fun r s4 ⟨hr, I4⟩ => ?_)
    subst hr
    exact wpAny_execs_nil ⟨σ3, H3, I4, qn⟩
  · refine wpAny_passesOwn hp (thn (T.item X rfl rfl rfl hc i pins s3 σ3 H3 X.xe I3 (stat fr3) st3 go) fun r s4 ⟨u, hr, h4⟩ => ?_)
    subst hr
    refine wpAny_passesOwn hp (thn h4 fun _ s5 ⟨x, H5, I5, r5, y5, st5, fr5⟩ => ?_)
    have I5' := I5.pinned (stat fr5) (T.obj _ _ st5)
    refine wpAny_passesOwn hp (thn (hg _ s5 σ3 H5 x u _ I5' r5 (step x H5 y5)) fun _ s6 ⟨σ6, H6, I6, q6⟩ => ?_)
    refine wpAny_passesOwn hp (thn (hb _ s6 σ6 H6 _ I6 q6) fun f s7 q7 => ?_)
    have again : ∀ {σ7 : St} {H7 : Hp}, Inv X (pins ++ pinsAt fp s5.heap) σ7 H7 s7 → N σ7 H7 → ∃ m, m < n ∧ ∃ i σ' H', Inv X pins σ' H' s7 ∧ tn i s7.heap ∧ (∀ b ∈ fp, H' b = none) ∧ W i m σ' H' := fun {σ7 H7} I7 n7 => by
      obtain ⟨m', hm, w7⟩ := hN σ7 H7 n7
      refine ⟨m', hm, i + 1, σ7, H7, I7.unpinned, T.keep _ _ _ st5 fun b hb o e => (I7.pin (b, o) (List.mem_append_right _ (List.mem_append_right _ (mem_pinsAt hb e)))).1, fun b hb => ?_, w7⟩
      obtain ⟨o, e, d⟩ := T.obj _ _ st5 b hb
      exact (I7.pin (b, o) (List.mem_append_right _ (List.mem_append_right _ (mem_pinsAt hb e)))).2.1
    cases f with
    | next => obtain ⟨σ7, H7, I7, n7⟩ := q7; exact again I7 n7
    | cont => obtain ⟨σ7, H7, I7, n7⟩ := q7; exact again I7 n7
    | brk => obtain ⟨σ7, H7, I7, q7⟩ := q7; exact ⟨σ7, H7, I7.unpinned, q7⟩
    | ret v => obtain ⟨x7, σ7, H7, I7, r7, q7⟩ := q7; exact ⟨x7, σ7, H7, I7.unpinned, r7, q7⟩
end

/-! ### the forms one uses -/
/-- over a list that the body leaves as it is -/
theorem for_list {K : PySem.W.Frag} {a : Addr} {xs : List V} {g : TG} {tb : TS} {D : Ends} {σ : St} {H : Hp} (Pv : Nat → St → Hp → Prop) (h0 : Pv 0 σ H) (hl : ∀ i σ H, i ≤ xs.length → Pv i σ H → SqL K H a xs)
    (hs : ∀ i x σ H, xs[i]? = some x → Pv i σ H → g x σ H fun σ2 H2 => tb { D with nx := Pv (i + 1), ct := Pv (i + 1), bk := D.nx } σ2 H2) (hd : ∀ σ H, Pv xs.length σ H → D.nx σ H) :
    ∃ W : Nat → Nat → St → Hp → Prop, (∃ m, W 0 m σ H) ∧ ∀ i m σ H, W i m σ H →
      ((Itl K a).stop i H ∧ D.nx σ H) ∨ ((Itl K a).go i H ∧ ∃ N : St → Hp → Prop, (∀ σ' H', N σ' H' → ∃ m', m' < m ∧ W (i + 1) m' σ' H') ∧ ∀ x H', (Itl K a).yld i H x H' → g x σ H' fun σ2 H2 => tb { D with nx := N, ct := N, bk := D.nx } σ2 H2) := by
  refine ⟨fun i m σ H => m = xs.length - i ∧ i ≤ xs.length ∧ Pv i σ H, ⟨xs.length, by simp, Nat.zero_le _, h0⟩, ?_⟩
  rintro i m σ H ⟨rfl, hi, p⟩
  have q := hl i σ H hi p
  by_cases hlt : i < xs.length
  · refine .inr ⟨⟨xs, xs[i], q, by simp [hlt]⟩, Pv (i + 1), fun σ' H' p' => ⟨xs.length - (i + 1), by omega, rfl, hlt, p'⟩, fun x H' y => ?_⟩
    obtain ⟨e, y⟩ := y
    subst e
    exact hs i x σ _ (y xs q) p
  · have e : i = xs.length := by omega
    subst e
    exact .inl ⟨⟨xs, q, Nat.le_refl _⟩, hd σ H p⟩
theorem for_range {lo : Int} {n : Nat} {g : TG} {tb : TS} {D : Ends} {σ : St} {H : Hp} (Pv : Nat → St → Hp → Prop) (h0 : Pv 0 σ H)
    (hs : ∀ i σ H, i < n → Pv i σ H → g (.int (lo + i)) σ H fun σ2 H2 => tb { D with nx := Pv (i + 1), ct := Pv (i + 1), bk := D.nx } σ2 H2) (hd : ∀ σ H, Pv n σ H → D.nx σ H) :
    ∃ W : Nat → Nat → St → Hp → Prop, (∃ m, W 0 m σ H) ∧ ∀ i m σ H, W i m σ H →
      ((Itr lo n).stop i H ∧ D.nx σ H) ∨ ((Itr lo n).go i H ∧ ∃ N : St → Hp → Prop, (∀ σ' H', N σ' H' → ∃ m', m' < m ∧ W (i + 1) m' σ' H') ∧ ∀ x H', (Itr lo n).yld i H x H' → g x σ H' fun σ2 H2 => tb { D with nx := N, ct := N, bk := D.nx } σ2 H2) := by
  refine ⟨fun i m σ H => m = n - i ∧ i ≤ n ∧ Pv i σ H, ⟨n, by simp, Nat.zero_le _, h0⟩, ?_⟩
  rintro i m σ H ⟨rfl, hi, p⟩
  by_cases hlt : i < n
  · refine .inr ⟨hlt, Pv (i + 1), fun σ' H' p' => ⟨n - (i + 1), by omega, rfl, hlt, p'⟩, fun x H' y => ?_⟩
    obtain ⟨e, y⟩ := y
    subst e y
    exact hs i σ _ hlt p
  · have e : i = n := by omega
    subst e
    exact .inl ⟨Nat.le_refl _, hd σ H p⟩
end L2

namespace L2
open PySem PySem.Spec PyProof.Rows

abbrev R2 := V → V → Hp → VK → Prop
/-- a two-place operation on values: f is binaryOp op, inplaceOp op or compareOp op -/
def OpR (X : Cx) (f : Value → Value → Sem Value) (r : R2) : Prop :=
  ∀ (pins : List (Addr × Obj)) (s : Shared) (σ : St) (H : Hp) (x y : V) (v u : Value) (Q : VK), Inv X pins σ H s → RelV x v → RelV y u → r x y H Q →
    wpAny (model X.prog X.w) X.A (f v u) (EP X pins σ Q) X.xe s
/-- a one-place operation -/
def UnR (X : Cx) (f : Value → Sem Value) (r : V → Hp → VK → Prop) : Prop :=
  ∀ (pins : List (Addr × Obj)) (s : Shared) (σ : St) (H : Hp) (x : V) (v : Value) (Q : VK), Inv X pins σ H s → RelV x v → r x H Q →
    wpAny (model X.prog X.w) X.A (f v) (EP X pins σ Q) X.xe s
/-- a call of a value that is known (a builtin, a type) with values -/
def CallR (X : Cx) (f : Value) (r : List V → Hp → VK → Prop) : Prop :=
  ∀ (pins : List (Addr × Obj)) (s : Shared) (σ : St) (H : Hp) (xs : List V) (us : List Value) (Q : VK), Inv X pins σ H s → Vals xs us → r xs H Q →
    wpAny (model X.prog X.w) X.A (call f us) (EP X pins σ Q) X.xe s
/-- a value's truth -/
def TruR (X : Cx) (r : V → Hp → (Bool → Hp → Prop) → Prop) : Prop :=
  ∀ (pins : List (Addr × Obj)) (s : Shared) (σ : St) (H : Hp) (x : V) (v : Value) (Q : Bool → Hp → Prop), Inv X pins σ H s → RelV x v → r x H Q →
    wpAny (model X.prog X.w) X.A (truthy v) (TP X pins σ Q) X.xe s

def tOp (r : R2) (ta tb : TE) : TE := fun σ H Q => ta σ H fun x H1 => tb σ H1 fun y H2 => r x y H2 Q
def tUn (r : V → Hp → VK → Prop) (ta : TE) : TE := fun σ H Q => ta σ H fun x H1 => r x H1 Q
/-- ints in, under C, and a value out -/
def rI (C : Int → Int → Prop) (g : Int → Int → V) : R2 := fun x y H Q => ∃ i j, x = .int i ∧ y = .int j ∧ C i j ∧ Q (g i j) H
def rI0 (g : Int → Int → V) : R2 := fun x y H Q => ∃ i j, x = .int i ∧ y = .int j ∧ Q (g i j) H
def rU (g : Int → V) : V → Hp → VK → Prop := fun x H Q => ∃ i, x = .int i ∧ Q (g i) H

section
variable {X : Cx} {a b c : Expr} {ta tb tc : TE} {pos : Pos}

theorem binT (ha : PE X a ta) (hb : PE X b tb) {pins : List (Addr × Obj)} {s : Shared} {σ : St} {H : Hp} {R : V → V → Hp → Prop} (I : Inv X pins σ H s)
    (h : ta σ H fun x H1 => tb σ H1 fun y H2 => R x y H2) {Q : Value → Shared → Prop} {f : Value → Value → Sem Value}
    (hf : ∀ v u s2 x y H2, Inv X pins σ H2 s2 → RelV x v → RelV y u → R x y H2 → wpAny (model X.prog X.w) X.A (f v u) Q X.xe s2) :
    wpAny (model X.prog X.w) X.A (eval a X.env) (fun v s₁ => wpAny (model X.prog X.w) X.A (eval b X.env) (fun u s₂ => wpAny (model X.prog X.w) X.A (f v u) Q X.xe s₂) X.xe s₁) X.xe s := by
  refine thn (ha pins s σ H _ I h) fun v s1 ⟨x, H1, I1, r1, q1⟩ => ?_
  refine thn (hb pins s1 σ H1 _ I1 q1) fun u s2 ⟨y, H2, I2, r2, q2⟩ => ?_
  exact hf v u s2 x y H2 I2 r1 r2 q2

theorem pe_op {op : Operator} {r : R2} (ho : OpR X (binaryOp op) r) (ha : PE X a ta) (hb : PE X b tb) : PE X (.BinOp a op b pos) (tOp r ta tb) := by
  intro pins s σ H Q I h
  exact wpAny_BinOp (binT ha hb I h fun v u s2 x y H2 I2 rx ry q => ho pins s2 σ H2 x y v u Q I2 rx ry q)
theorem pe_un {op : UnaryOp} {r : V → Hp → VK → Prop} (ho : UnR X (unaryOp op) r) (ha : PE X a ta) : PE X (.UnaryOp op a pos) (tUn r ta) := by
  intro pins s σ H Q I h
  exact UnaryOp_ (thn (ha pins s σ H _ I h) fun v s1 ⟨x, H1, I1, r1, q1⟩ => ho pins s1 σ H1 x v Q I1 r1 q1)
/-! ### ints -/
theorem opI {f : Value → Value → Sem Value} {C : Int → Int → Prop} {g : Int → Int → Int}
    (rule : ∀ (i j : Int) (t u : Tok) (s : Shared) (Q : Value → Shared → Prop) (E : Value → Shared → Prop), C i j → Q (.int (g i j) s.toks) { s with toks := s.toks + 1 } → wpAny (model X.prog X.w) X.A (f (.int i t) (.int j u)) Q E s) :
    OpR X f (rI C fun i j => .int (g i j)) := by
  intro pins s σ H x y v u Q I rx ry h
  obtain ⟨i, j, rfl, rfl, hc, q⟩ := h
  obtain ⟨t, rfl⟩ := rx
  obtain ⟨t', rfl⟩ := ry
  exact rule i j t t' s _ _ hc ⟨.int (g i j), H, I.tok _, ⟨_, rfl⟩, q⟩
theorem opI0 {f : Value → Value → Sem Value} {g : Int → Int → Int}
    (rule : ∀ (i j : Int) (t u : Tok) (s : Shared) (Q : Value → Shared → Prop) (E : Value → Shared → Prop), Q (.int (g i j) s.toks) { s with toks := s.toks + 1 } → wpAny (model X.prog X.w) X.A (f (.int i t) (.int j u)) Q E s) :
    OpR X f (rI0 fun i j => .int (g i j)) := by
  intro pins s σ H x y v u Q I rx ry h
  obtain ⟨i, j, rfl, rfl, q⟩ := h
  obtain ⟨t, rfl⟩ := rx
  obtain ⟨t', rfl⟩ := ry
  exact rule i j t t' s _ _ ⟨.int (g i j), H, I.tok _, ⟨_, rfl⟩, q⟩
theorem opB0 {f : Value → Value → Sem Value} {g : Int → Int → Bool}
    (rule : ∀ (i j : Int) (t u : Tok) (s : Shared) (Q : Value → Shared → Prop) (E : Value → Shared → Prop), Q (.bool (g i j)) s → wpAny (model X.prog X.w) X.A (f (.int i t) (.int j u)) Q E s) :
    OpR X f (rI0 fun i j => .bl (g i j)) := by
  intro pins s σ H x y v u Q I rx ry h
  obtain ⟨i, j, rfl, rfl, q⟩ := h
  obtain ⟨t, rfl⟩ := rx
  obtain ⟨t', rfl⟩ := ry
  exact rule i j t t' s _ _ ⟨.bl (g i j), H, I, rfl, q⟩

def CPow (i j : Int) : Prop := 0 ≤ j ∧ j ≤ 1000000 ∧ i.natAbs < 2 ^ 64
def CMul (i j : Int) : Prop := (-(2 ^ 64) < i ∧ i < 2 ^ 64) ∨ (-(2 ^ 64) < j ∧ j < 2 ^ 64)
theorem CMul.ok {i j : Int} (h : CMul i j) : IntMulOk i j := by
  rcases h with ⟨h1, h2⟩ | ⟨h1, h2⟩
  · exact .of_left (intBits_le_64 h1 h2)
  · exact .of_right (intBits_le_64 h1 h2)
theorem two_pow_nn (k : Nat) : (0 : Int) ≤ 2 ^ k := by
  rw [two_pow_cast]
  exact Int.natCast_nonneg _

theorem op_add : OpR X (binaryOp .Add) (rI0 fun i j => .int (i + j)) := opI0 fun _ _ _ _ _ _ _ q => add_int q
theorem op_sub : OpR X (binaryOp .Sub) (rI0 fun i j => .int (i - j)) := opI0 fun _ _ _ _ _ _ _ q => sub_int q
theorem op_mul : OpR X (binaryOp .Mult) (rI CMul fun i j => .int (i * j)) := opI fun _ _ _ _ _ _ _ hc q => mul_int q hc.ok
/-- % by a positive divisor of any size -/
theorem op_mod : OpR X (binaryOp .Mod) (rI (fun _ j => 0 < j) fun i j => .int (i % j)) := opI fun i j _ _ _ _ _ hc q => by
  have h1 : (0 : Int) < j := hc
  exact mod_int' (by omega) (by rw [Int.fmod_eq_emod_of_nonneg i (by omega)]; exact q)
theorem op_pow : OpR X (binaryOp .Pow) (rI CPow fun i j => .int (i ^ j.toNat)) := opI fun _ _ _ _ _ _ _ hc q => pow_int_small hc.1 hc.2.1 hc.2.2 q
theorem op_shl : OpR X (binaryOp .LShift) (rI CPow fun i j => .int (i * 2 ^ j.toNat)) := opI fun _ _ _ _ _ _ _ hc q => lshift_int_small hc.1 hc.2.1 hc.2.2 q
theorem op_shr : OpR X (binaryOp .RShift) (rI (fun _ j => 0 ≤ j) fun i j => .int (i / 2 ^ j.toNat)) := opI fun i j _ _ _ _ _ hc q =>
  rshift_int hc (by rw [Int.fdiv_eq_ediv_of_nonneg i (two_pow_nn _)]; exact q)
theorem op_and : OpR X (binaryOp .BitAnd) (rI0 fun i j => .int (Builtin.bitAnd i j)) := opI0 fun _ _ _ _ _ _ _ q => and_int q
theorem op_or : OpR X (binaryOp .BitOr) (rI0 fun i j => .int (Builtin.bitOr i j)) := opI0 fun _ _ _ _ _ _ _ q => or_int q
theorem op_xor : OpR X (binaryOp .BitXor) (rI0 fun i j => .int (Builtin.bitXor i j)) := opI0 fun _ _ _ _ _ _ _ q => xor_int q

theorem unI {f : Value → Sem Value} {g : Int → Int}
    (rule : ∀ (i : Int) (t : Tok) (s : Shared) (Q : Value → Shared → Prop) (E : Value → Shared → Prop), Q (.int (g i) s.toks) { s with toks := s.toks + 1 } → wpAny (model X.prog X.w) X.A (f (.int i t)) Q E s) :
    UnR X f (rU fun i => .int (g i)) := by
  intro pins s σ H x v Q I rx h
  obtain ⟨i, rfl, q⟩ := h
  obtain ⟨t, rfl⟩ := rx
  exact rule i t s _ _ ⟨.int (g i), H, I.tok _, ⟨_, rfl⟩, q⟩
theorem un_neg : UnR X (unaryOp .USub) (rU fun i => .int (-i)) := unI fun _ _ _ _ _ q => neg_int q
/-! ### bools among ints: n += (a < b) -/
end

/-! ### comparisons -/
/-- the scalars that == tells apart as data does -/
def scal : V → V → Bool
  | .non, .non => true | .non, .int _ => true | .int _, .non => true | .non, .bl _ => true | .bl _, .non => true | .non, .str _ => true | .str _, .non => true
  | .int _, .int _ => true | .bl _, .bl _ => true | .str _, .str _ => true | .byt _, .byt _ => true
  | .int _, .str _ => true | .str _, .int _ => true | .bl _, .str _ => true | .str _, .bl _ => true
  | _, _ => false
def rEq : R2 := fun x y H Q => scal x y = true ∧ Q (.bl (decide (x = y))) H
def rNe : R2 := fun x y H Q => scal x y = true ∧ Q (.bl (!decide (x = y))) H

theorem dec_int {i j : Int} : decide (V.int i = V.int j) = (i == j) := by
  rw [Bool.eq_iff_iff]
  simp
theorem dec_bl {i j : Bool} : decide (V.bl i = V.bl j) = (i == j) := by
  rw [Bool.eq_iff_iff]
  simp
theorem dec_str {i j : Str} : decide (V.str i = V.str j) = (i == j) := by
  rw [Bool.eq_iff_iff]
  simp
theorem dec_byt {i j : Array UInt8} : decide (V.byt i = V.byt j) = (i.toList == j.toList) := by
  rw [Bool.eq_iff_iff]
  cases i
  cases j
  simp

section
variable {X : Cx} {a b c : Expr} {ta tb tc : TE} {pos : Pos}
theorem fin_bl {pins : List (Addr × Obj)} {σ : St} {H : Hp} {s : Shared} {Q : VK} {k k' : Bool} (I : Inv X pins σ H s) (q : Q (.bl k) H) (e : k = k') : EP X pins σ Q (.bool k') s := by
  subst e
  exact ⟨.bl k, H, I, rfl, q⟩
theorem op_eq : OpR X (compareOp .Eq) rEq := by
  intro pins s σ H x y v u Q I rx ry h
  obtain ⟨hs, q⟩ := h
  cases x with
  | non =>
    cases rx
    cases y with
    | non => cases ry; exact PySem.EqNone.eq_none_none (fin_bl I q (by simp))
    | bl j => cases ry; exact PySem.EqNone.eq_none_bool (fin_bl I q (by simp))
    | int j => obtain ⟨t', rfl⟩ := ry; exact PySem.EqNone.eq_none_int (fin_bl I q (by simp))
    | str j => obtain ⟨t', rfl⟩ := ry; exact PySem.EqNone.eq_none_str (fin_bl I q (by simp))
    | _ => exact absurd (show false = true from hs) Bool.false_ne_true
  | bl i =>
    cases rx
    cases y with
    | non => cases ry; exact PySem.EqNone.eq_bool_none (fin_bl I q (by simp))
    | bl j => cases ry; exact eq_bool (fin_bl I q dec_bl)
    | str j => obtain ⟨t', rfl⟩ := ry; exact PySem.EqMixed.eq_bool_str (fin_bl I q (by simp))
    | _ => exact absurd (show false = true from hs) Bool.false_ne_true
  | int i =>
    obtain ⟨t, rfl⟩ := rx
    cases y with
    | non => cases ry; exact PySem.EqNone.eq_int_none (fin_bl I q (by simp))
    | int j => obtain ⟨t', rfl⟩ := ry; exact eq_int (fin_bl I q dec_int)
    | str j => obtain ⟨t', rfl⟩ := ry; exact PySem.EqMixed.eq_int_str (fin_bl I q (by simp))
    | _ => exact absurd (show false = true from hs) Bool.false_ne_true
  | str i =>
    obtain ⟨t, rfl⟩ := rx
    cases y with
    | non => cases ry; exact PySem.EqNone.eq_str_none (fin_bl I q (by simp))
    | bl j => cases ry; exact PySem.EqMixed.eq_str_bool (fin_bl I q (by simp))
    | int j => obtain ⟨t', rfl⟩ := ry; exact PySem.EqMixed.eq_str_int (fin_bl I q (by simp))
    | str j => obtain ⟨t', rfl⟩ := ry; exact eq_str (fin_bl I q dec_str)
    | _ => exact absurd (show false = true from hs) Bool.false_ne_true
  | byt i =>
    obtain ⟨t, rfl⟩ := rx
    cases y with
    | byt j => obtain ⟨t', rfl⟩ := ry; exact PySem.W.eq_bytes (fin_bl I q dec_byt)
    | _ => exact absurd (show false = true from hs) Bool.false_ne_true
  | _ => cases y <;> exact absurd (show false = true from hs) Bool.false_ne_true
theorem op_ne : OpR X (compareOp .NotEq) rNe := by
  intro pins s σ H x y v u Q I rx ry h
  obtain ⟨hs, q⟩ := h
  cases x with
  | non =>
    cases rx
    cases y with
    | non => cases ry; exact PySem.EqNone.ne_none_none (fin_bl I q (by simp))
    | bl j => cases ry; exact PySem.EqNone.ne_none_bool (fin_bl I q (by simp))
    | int j => obtain ⟨t', rfl⟩ := ry; exact PySem.EqNone.ne_none_int (fin_bl I q (by simp))
    | str j => obtain ⟨t', rfl⟩ := ry; exact PySem.EqNone.ne_none_str (fin_bl I q (by simp))
    | _ => exact absurd (show false = true from hs) Bool.false_ne_true
  | bl i =>
    cases rx
    cases y with
    | non => cases ry; exact PySem.EqNone.ne_bool_none (fin_bl I q (by simp))
    | bl j => cases ry; exact ne_bool (fin_bl I q (congrArg not dec_bl))
    | str j => obtain ⟨t', rfl⟩ := ry; exact PySem.EqMixed.ne_bool_str (fin_bl I q (by simp))
    | _ => exact absurd (show false = true from hs) Bool.false_ne_true
  | int i =>
    obtain ⟨t, rfl⟩ := rx
    cases y with
    | non => cases ry; exact PySem.EqNone.ne_int_none (fin_bl I q (by simp))
    | int j => obtain ⟨t', rfl⟩ := ry; exact ne_int (fin_bl I q (congrArg not dec_int))
    | str j => obtain ⟨t', rfl⟩ := ry; exact PySem.EqMixed.ne_int_str (fin_bl I q (by simp))
    | _ => exact absurd (show false = true from hs) Bool.false_ne_true
  | str i =>
    obtain ⟨t, rfl⟩ := rx
    cases y with
    | non => cases ry; exact PySem.EqNone.ne_str_none (fin_bl I q (by simp))
    | bl j => cases ry; exact PySem.EqMixed.ne_str_bool (fin_bl I q (by simp))
    | int j => obtain ⟨t', rfl⟩ := ry; exact PySem.EqMixed.ne_str_int (fin_bl I q (by simp))
    | str j => obtain ⟨t', rfl⟩ := ry; exact ne_str (fin_bl I q (congrArg not dec_str))
    | _ => exact absurd (show false = true from hs) Bool.false_ne_true
  | byt i =>
    obtain ⟨t, rfl⟩ := rx
    cases y with
    | byt j => obtain ⟨t', rfl⟩ := ry; exact PySem.W.ne_bytes (fin_bl I q (congrArg not dec_byt))
    | _ => exact absurd (show false = true from hs) Bool.false_ne_true
  | _ => cases y <;> exact absurd (show false = true from hs) Bool.false_ne_true

theorem op_lt : OpR X (compareOp .Lt) (rI0 fun i j => .bl (decide (i < j))) := opB0 fun _ _ _ _ _ _ _ q => lt_int q
theorem op_le : OpR X (compareOp .LtE) (rI0 fun i j => .bl (decide (i ≤ j))) := opB0 fun _ _ _ _ _ _ _ q => le_int q
theorem op_gt : OpR X (compareOp .Gt) (rI0 fun i j => .bl (decide (j < i))) := opB0 fun _ _ _ _ _ _ _ q => gt_int q
theorem nomark (b : Expr) {op : CmpOp} (h : op ≠ .In := by decide) (h2 : op ≠ .NotIn := by decide) : behindInMarks op b = false := by
  have e1 : (op == CmpOp.In) = false := by cases op <;> first | rfl | exact absurd rfl h
  have e2 : (op == CmpOp.NotIn) = false := by cases op <;> first | rfl | exact absurd rfl h2
  cases b <;> simp [behindInMarks, e1, e2]
/-- a comparison as a value; hm: nomark b, or (for in, not in) by with_unfolding_all rfl -/
theorem pe_cmpR {op : CmpOp} {r : R2} (ho : OpR X (compareOp op) r) (ha : PE X a ta) (hb : PE X b tb) (hm : behindInMarks op b = false) : PE X (.Compare a [op] [b] pos) (tOp r ta tb) := by
  intro pins s σ H Q I h
  exact wpAny_Compare1 (binT ha hb I h fun v u s2 x y H2 I2 rx ry q => ho pins s2 σ H2 x y v u Q I2 rx ry q) hm
/-- a reading of a value as a test -/
def tTest (t : TE) : TT := fun σ H Q => t σ H fun x H' => ∃ k, x = .bl k ∧ Q k H'
theorem pt_cmpR {op : CmpOp} {r : R2} (ho : OpR X (compareOp op) r) (ha : PE X a ta) (hb : PE X b tb) (hm : behindInMarks op b = false) : PT X (.Compare a [op] [b] pos) (tTest (tOp r ta tb)) := by
  intro pins s σ H Q I h
  refine wpAny_isTrue_Compare1 (thn (ha pins s σ H _ I h) fun v s1 ⟨x, H1, I1, r1, q1⟩ => thn (hb pins s1 σ H1 _ I1 q1) fun u s2 ⟨y, H2, I2, r2, q2⟩ =>
    thn (ho pins s2 σ H2 x y v u _ I2 r1 r2 q2) fun c s3 ⟨z, H3, I3, r3, k, e, q3⟩ => ?_) hm
  subst e
  cases r3
  exact wpAny_truthy_bool ⟨H3, I3, q3⟩
/-! ### truth -/
/-- a value's truth by the abstract heap -/
def TruV (K : PySem.W.Frag) (x : V) (H : Hp) (k : Bool) : Prop :=
  match x with
  | .non => k = false
  | .bl b => k = b
  | .int i => k = (i != 0)
  | .str y => y.length ≤ sizeLine ∧ k = ((y.length : Int) != 0)
  | .byt y => y.size ≤ sizeLine ∧ k = ((y.size : Int) != 0)
  | .ref p => (∃ xs, SqL K H p xs ∧ k = !xs.isEmpty) ∨ (∃ xs, SqT K H p xs ∧ k = !xs.isEmpty) ∨ ∃ kvs, H p = some (.dK kvs) ∧ k = !kvs.isEmpty
  | _ => False
theorem isEmpty_kv {κ : Type} {kvs : List (κ × V)} {vs : List (κ × Value)} (r : KV kvs vs) : (!vs.isEmpty) = !kvs.isEmpty := by
  cases r <;> rfl
theorem isEmpty_of {xs : List V} {its : List Value} (r : Vals xs its) : (!its.toArray.isEmpty) = !xs.isEmpty := by
  cases r <;> simp
theorem line63 : (sizeLine : Nat) < 2 ^ 63 := by rw [sizeLine_eq]; decide
theorem tru_ok : TruR X (fun x H Q => ∃ k, TruV X.K x H k ∧ Q k H) := by
  intro pins s σ H x v Q I rx h
  obtain ⟨k, e, q⟩ := h
  have hl := line63
  have hs : sizeLine = 16777216 := sizeLine_eq
  cases x with
  | non =>
    cases rx
    have e' : k = false := e
    subst e'
    exact truthy_none ⟨H, I, q⟩
  | bl b =>
    cases rx
    have e' : k = b := e
    subst e'
    exact wpAny_truthy_bool ⟨H, I, q⟩
  | int i =>
    obtain ⟨t, rfl⟩ := rx
    have e' : k = (i != 0) := e
    subst e'
    exact PySem.P.truthy_int ⟨H, I, q⟩
  | str y =>
    obtain ⟨t, rfl⟩ := rx
    obtain ⟨hy, e'⟩ : y.length ≤ sizeLine ∧ k = ((y.length : Int) != 0) := e
    subst e'
    exact PySem.P.truthy_str (by omega) ⟨H, I.tok _, q⟩
  | byt y =>
    obtain ⟨t, rfl⟩ := rx
    obtain ⟨hy, e'⟩ : y.size ≤ sizeLine ∧ k = ((y.size : Int) != 0) := e
    subst e'
    exact PySem.W.truthy_bytes (by omega) ⟨H, I.tok _, q⟩
  | ref p =>
    cases rx
    have e' : (∃ xs, SqL X.K H p xs ∧ k = !xs.isEmpty) ∨ (∃ xs, SqT X.K H p xs ∧ k = !xs.isEmpty) ∨ ∃ kvs, H p = some (.dK kvs) ∧ k = !kvs.isEmpty := e
    rcases e' with ⟨xs, hx, e'⟩ | ⟨xs, hx, e'⟩ | ⟨kvs, hx, e'⟩
    · subst e'
      obtain ⟨its, r, pl, hz⟩ := I.list hx
      have hlen := r.length
      exact wpAny_truthy_list pl.isList (by simp only [List.size_toArray]; omega) ⟨H, I.tok _, by rw [isEmpty_of r]; exact q⟩
    · subst e'
      obtain ⟨its, r, pl, hz⟩ := I.tuple hx
      have hlen := r.length
      exact truthy_tuple pl (by simp only [List.size_toArray]; omega) ⟨H, I.tok _, by rw [isEmpty_of r]; exact q⟩
    · subst e'
      obtain ⟨hz, hS, vs, r, m⟩ : kvs.length ≤ sizeLine ∧ (p == sysModules) = false ∧ ∃ vs, KV kvs vs ∧ s.heap.DictOf (mixKind X.prog X.w) p vs := I.hok p _ hx
      have hlen : kvs.length = vs.length := Paired.length r
      exact wpAny_truthy_dict hS m (by omega) ⟨H, I.tok _, by rw [isEmpty_kv r]; exact q⟩
  | _ => exact (show False from e).elim
/-- any expression whose test is its value's truth (a name, a call, a subscript, a field ..: he by fun _ => rfl) -/
theorem pt_truth (ha : PE X a ta) (he : ∀ whole, isTrue a X.env whole = (do let v ← whole; standAt a.pos; holding [v] (truthy v))) :
    PT X a (fun σ H Q => ta σ H fun x H' => ∃ k, TruV X.K x H' k ∧ Q k H') := by
  intro pins s σ H Q I h
  exact isTrue_plain (thn (ha pins s σ H _ I h) fun v s1 ⟨x, H1, I1, r1, q1⟩ => tru_ok pins s1 σ H1 x v Q I1 r1 q1) (he _)

/-! ### strs and bytes -/
theorem op_add_str : OpR X (binaryOp .Add) (fun x y H Q => ∃ i j, x = .str i ∧ y = .str j ∧ i.length + j.length ≤ sizeLine ∧ Q (.str (i ++ j)) H) := by
  intro pins s σ H x y v u Q I rx ry h
  obtain ⟨i, j, rfl, rfl, hz, q⟩ := h
  obtain ⟨t, rfl⟩ := rx
  obtain ⟨t', rfl⟩ := ry
  exact add_str (fun t' tk => ⟨.str (i ++ j), H, I.tok _, ⟨_, rfl⟩, q⟩) hz
/-! ### scalar builtins, by CallR -/
theorem vals1 {x : V} {us : List Value} (r : Vals [x] us) : ∃ u, us = [u] ∧ RelV x u := by
  cases r with
  | cons r1 r2 => cases r2; exact ⟨_, rfl, r1⟩
theorem vals2 {x y : V} {us : List Value} (r : Vals [x, y] us) : ∃ u w', us = [u, w'] ∧ RelV x u ∧ RelV y w' := by
  cases r with
  | cons r1 r2 =>
    cases r2 with
    | cons r3 r4 => cases r4; exact ⟨_, _, rfl, r1, r3⟩
theorem call_abs : CallR X (.builtin "abs") (fun xs H Q => ∃ i, xs = [.int i] ∧ Q (.int (if i < 0 then -i else i)) H) := by
  intro pins s σ H xs us Q I r h
  obtain ⟨i, rfl, q⟩ := h
  obtain ⟨u, rfl, t, rfl⟩ := vals1 r
  exact call_abs_int fun u tk => ⟨.int (if i < 0 then -i else i), H, I.tok _, ⟨_, rfl⟩, q⟩
theorem call_max2 (hc : X.calm = true) : CallR X (.builtin "max") (fun xs H Q => ∃ i j, xs = [.int i, .int j] ∧ Q (.int (if j > i then j else i)) H) := by
  intro pins s σ H xs us Q I r h
  obtain ⟨i, j, rfl, q⟩ := h
  obtain ⟨u, w', rfl, ⟨t, rfl⟩, ⟨t', rfl⟩⟩ := vals2 r
  refine max_two_ints (I.ok.hd hc) fun h' tk k => ⟨_, H, I.kept k, ?_, q⟩
  by_cases hj : j > i
  · rw [if_pos hj, if_pos hj]; exact ⟨_, rfl⟩
  · rw [if_neg hj, if_neg hj]; exact ⟨_, rfl⟩
theorem call_min2 (hc : X.calm = true) : CallR X (.builtin "min") (fun xs H Q => ∃ i j, xs = [.int i, .int j] ∧ Q (.int (if j < i then j else i)) H) := by
  intro pins s σ H xs us Q I r h
  obtain ⟨i, j, rfl, q⟩ := h
  obtain ⟨u, w', rfl, ⟨t, rfl⟩, ⟨t', rfl⟩⟩ := vals2 r
  refine min_two_ints (I.ok.hd hc) fun h' tk k => ⟨_, H, I.kept k, ?_, q⟩
  by_cases hj : j < i
  · rw [if_pos hj, if_pos hj]; exact ⟨_, rfl⟩
  · rw [if_neg hj, if_neg hj]; exact ⟨_, rfl⟩
theorem call_int1 : CallR X (.type "int") (fun xs H Q => (∃ i, xs = [.int i] ∧ Q (.int i) H) ∨ ∃ k, xs = [.bl k] ∧ Q (.int (if k then 1 else 0)) H) := by
  intro pins s σ H xs us Q I r h
  rcases h with ⟨i, rfl, q⟩ | ⟨k, rfl, q⟩
  · obtain ⟨u, rfl, t, rfl⟩ := vals1 r
    exact call_int_int ⟨.int i, H, I, ⟨_, rfl⟩, q⟩
  · obtain ⟨u, rfl, r1⟩ := vals1 r
    cases r1
    exact call_int_bool ⟨.int (if k then 1 else 0), H, I.tok _, ⟨_, rfl⟩, q⟩
/-- len of a str, a bytes, a list, a tuple -/
def LenV (K : PySem.W.Frag) (x : V) (H : Hp) (n : Nat) : Prop :=
  match x with
  | .str y => y.length ≤ sizeLine ∧ n = y.length
  | .byt y => y.size ≤ sizeLine ∧ n = y.size
  | .ref p => (∃ xs, SqL K H p xs ∧ n = xs.length) ∨ ∃ xs, SqT K H p xs ∧ n = xs.length
  | _ => False
theorem call_len : CallR X (.builtin "len") (fun xs H Q => ∃ x n, xs = [x] ∧ LenV X.K x H n ∧ Q (.int n) H) := by
  intro pins s σ H xs us Q I r h
  obtain ⟨x, n, rfl, e, q⟩ := h
  obtain ⟨u, rfl, rx⟩ := vals1 r
  have hl := line63
  have hs : sizeLine = 16777216 := sizeLine_eq
  cases x with
  | str y =>
    obtain ⟨t, rfl⟩ := rx
    obtain ⟨hy, e'⟩ : y.length ≤ sizeLine ∧ n = y.length := e
    subst e'
    exact len_str (by omega) ⟨.int _, H, I.tok _, ⟨_, rfl⟩, q⟩
  | byt y =>
    obtain ⟨t, rfl⟩ := rx
    obtain ⟨hy, e'⟩ : y.size ≤ sizeLine ∧ n = y.size := e
    subst e'
    exact PySem.W.len_bytes (by omega) ⟨.int _, H, I.tok _, ⟨_, rfl⟩, q⟩
  | ref p =>
    cases rx
    have e' : (∃ xs, SqL X.K H p xs ∧ n = xs.length) ∨ ∃ xs, SqT X.K H p xs ∧ n = xs.length := e
    rcases e' with ⟨xs, hx, e'⟩ | ⟨xs, hx, e'⟩
    · subst e'
      obtain ⟨its, r', pl, hz⟩ := I.list hx
      have hlen := r'.length
      exact Calls.call_len_list pl.isList (by simp only [List.size_toArray]; omega) ⟨.int xs.length, H, I.tok _, ⟨_, by simp only [List.size_toArray]; rw [hlen]⟩, q⟩
    · subst e'
      obtain ⟨its, r', pl, hz⟩ := I.tuple hx
      have hlen := r'.length
      exact len_tuple pl (by simp only [List.size_toArray]; omega) ⟨.int xs.length, H, I.tok _, ⟨_, by simp only [List.size_toArray]; rw [hlen]⟩, q⟩
  | _ => exact (show False from e).elim
end
end L2

namespace L2
open PySem PySem.Spec PyProof.Rows

/-! ### an instance, its attributes a map -/
structure ObjM (h : Heap) (x dx C : Addr) (mA : Str → Option Value) : Prop where
  obj : h.get? x = some (PySem.W.instObj C dx)
  ns : h.Ns1 dx mA
  ne : dx ≠ x

theorem lookIn_ns {h : Heap} {dx : Addr} {mA : Str → Option Value} (n : h.Ns1 dx mA) : ∃ od, h.get? dx = some od ∧ ∀ name, PySem.W.lookIn name od = some (mA name) := by
  obtain ⟨o, es, ep, ho, hd, hk, _, hm⟩ := n
  refine ⟨o, ho, fun name => ?_⟩
  have e := hm name
  unfold nsFind findBy at e
  rw [← Array.find?_toList] at e
  unfold PySem.W.lookIn
  rw [hd]
  dsimp only
  split
  · rename_i y q
    rw [q] at e
    exact congrArg some e
  · rename_i q
    rw [q] at e
    have a : es.toList.any (·.refKey) = false := by
      rw [List.any_eq_false]
      intro y hy
      obtain ⟨z, t, hkey⟩ := hk y (Array.mem_toList_iff.mp hy)
      simp [DictEntry.refKey, hkey]
    have a' : ¬ es.toList.any (·.refKey) = true := by rw [a]; exact Bool.false_ne_true
    rw [if_neg a']
    exact congrArg some e

theorem ObjM.look {h : Heap} {x dx C : Addr} {mA : Str → Option Value} (I : ObjM h x dx C mA) : ∃ od, PySem.W.InstAt h x (PySem.W.instObj C dx) C (some od) ∧ ∀ name, PySem.W.lookIn name od = some (mA name) :=
  let ⟨od, ho, hl⟩ := lookIn_ns I.ns
  ⟨od, ⟨I.obj, rfl, rfl, ho⟩, hl⟩

section
variable {prog : Program} {w : World} {A : Around} {E : Value → Shared → Prop} {s : Shared} {K : PySem.W.Frag} {x dx C f : Addr} {mA : Str → Option Value} {name : Str} {v : Value}

end

/-! ### the attributes as a list of pairs -/
theorem RelO.some_of {v : V} {o : Option Value} (r : RelO (some v) o) : ∃ u, o = some u ∧ RelV v u := by
  cases o with
  | none => exact (show False from r).elim
  | some u => exact ⟨u, rfl, r⟩
section
variable {P : Program} {w : World} {H H' : Hp} {h h' : Heap} {a C dx : Addr} {fs fs' : List (Str × V)}
theorem ins_get (hok : HOk P w H h) (e : H a = some (.ins C dx fs)) : ∃ mA, ObjM h a dx C mA ∧ (∀ f, RelO (fs.lookup f) (mA f)) ∧ PySem.Within mA (fs.map (·.1)) ∧ fs.length ≤ 1000 ∧ H dx = some (.own a) := by
  obtain ⟨d, z, ne, ob, mA, n, r, q⟩ := (show ObjOk P w H h a (.ins C dx fs) from hok a _ e)
  exact ⟨mA, ⟨ob, n, ne⟩, r, q, z, d⟩
end

/-! ### what of the text a class must have -/
structure Cls (K : PySem.W.Frag) (C : Addr) : Prop where
  pg : PySem.W.plainGet K C Str.empty = true
  hd : PySem.W.hasDictIn K C = true
  po : PySem.W.plainOver K C = true
  sa : PySem.W.findIn K (.ref C) "__setattr__" = some (some (.builtin "object.__setattr__"))
theorem Cls.get {K : PySem.W.Frag} {C : Addr} (c : Cls K C) (f : Str) : PySem.W.plainGet K C f = true := c.pg
section
variable {X : Cx} {pins : List (Addr × Obj)} {σ : St} {H : Hp} {s : Shared} {a C dx : Addr} {fs : List (Str × V)} {f : Str} {v : V} {A : Around} {E : Value → Shared → Prop}

end

/-! ### readings and rules -/
section
variable {X : Cx} {o e value : Expr} {f : Str} {pos pos' tpos : Pos} {ta tv : TE}
end

/-! ### isinstance -/
section
variable {X : Cx} {pins : List (Addr × Obj)} {σ : St} {H : Hp} {s : Shared} {A : Around} {E : Value → Shared → Prop} {Q : Value → Shared → Prop} {c : Value} {b : Bool}
/-- the type of a value, as the fragment's deciders take it; for an instance its class -/
inductive TyOf (K : PySem.W.Frag) (H : Hp) : V → Value → Prop where
  | non : TyOf K H .non (.type "NoneType")
  | bl (x : Bool) : TyOf K H (.bl x) (.type "bool")
  | int (i : Int) : TyOf K H (.int i) (.type "int")
  | str (x : Str) : TyOf K H (.str x) (.type "str")
  | flt (x : UInt64) : TyOf K H (.flt x) (.type "float")
  | lst {a : Addr} {xs : List V} (e : H a = some (.lst xs)) : TyOf K H (.ref a) (.type "list")
  | frz {a : Addr} {o : Obj} {xs : List V} (e : H a = some (.frz o (.lst xs))) : TyOf K H (.ref a) (.type "list")
  | tup {a : Addr} {xs : List V} (e : H a = some (.tup xs)) : TyOf K H (.ref a) (.type "tuple")
  | dK {a : Addr} {kvs : List (Key × V)} (e : H a = some (.dK kvs)) : TyOf K H (.ref a) (.type "dict")
  | dT {a : Addr} {kvs : List (List Key × V)} (e : H a = some (.dT kvs)) : TyOf K H (.ref a) (.type "dict")
  | ins {a C dx : Addr} {fs : List (Str × V)} (e : H a = some (.ins C dx fs)) (cl : Cls K C) (ha : PySem.W.findIn K (.ref C) "__class__" = some (some (.builtin "object.__class__")))
      (hn : PySem.W.specialIn K (.builtin "object.__class__") "__get__" = some (some (.builtin "getset_descriptor.__get__"))) (htk : PySem.W.takesIn K (.builtin "object.__class__") = some true)
      (hm : PySem.W.mroIn K C (.type "object") = some true) : TyOf K H (.ref a) (.ref C)
/-- isinstance(x, c) for one class c, a built-in or an own one: kitOne's answer -/
theorem isinst_ok {x : V} {u t : Value} (I : Inv X pins σ H s) (rx : RelV x u) (ty : TyOf X.K H x t) (e : PySem.W.kitOne X.K t c = some b) (h : ∀ tk, Q (.bool b) { s with toks := tk }) :
    wpAny (model X.prog X.w) A (call (.builtin "isinstance") [u, c]) Q E s := by
  cases ty with
  | non => cases (show u = Value.none from rx); exact PySem.W.kia_one PySem.W.kitx_none I.kIn True.intro e (fun z => nomatch z) h
  | bl y => cases (show u = Value.bool y from rx); exact PySem.W.kia_one PySem.W.kitx_bool I.kIn True.intro e (fun z => nomatch z) h
  | int i => obtain ⟨t, q⟩ := (show ∃ t, u = Value.int i t from rx); cases q; exact PySem.W.kia_one PySem.W.kitx_int I.kIn True.intro e (fun z => nomatch z) h
  | str y => obtain ⟨t, q⟩ := (show ∃ t, u = Value.str y t from rx); cases q; exact PySem.W.kia_one PySem.W.kitx_str I.kIn True.intro e (fun z => nomatch z) h
  | flt y => obtain ⟨t, q⟩ := (show ∃ t, u = Value.float y t from rx); cases q; exact PySem.W.kia_one PySem.W.kitx_float I.kIn True.intro e (fun z => nomatch z) h
  | @lst a xs ea =>
    cases (show u = Value.ref a from rx)
    obtain ⟨_, _, n, _, h1⟩ := (show ObjOk X.prog X.w H s.heap a (.lst xs) from I.hok a _ ea)
    exact PySem.W.kia_one PySem.W.kitx_list I.kIn ⟨_, h1, rfl⟩ e (fun z => nomatch z) h
  | @frz a ob xs ea =>
    cases (show u = Value.ref a from rx)
    obtain ⟨_, _, _, n, _, h1⟩ := (show ObjOk X.prog X.w H s.heap a (.frz ob (.lst xs)) from I.hok a _ ea)
    exact PySem.W.kia_one PySem.W.kitx_list I.kIn ⟨_, h1, rfl⟩ e (fun z => nomatch z) h
  | @tup a xs ea =>
    cases (show u = Value.ref a from rx)
    obtain ⟨_, _, _, p⟩ := (show ObjOk X.prog X.w H s.heap a (.tup xs) from I.hok a _ ea)
    obtain ⟨o, h1, h2, _⟩ := p
    exact PySem.W.kia_one PySem.W.kitx_tuple I.kIn ⟨o, h1, h2⟩ e (fun z => nomatch z) h
  | @dK a kvs ea =>
    cases (show u = Value.ref a from rx)
    obtain ⟨_, _, vs, _, p⟩ := (show ObjOk X.prog X.w H s.heap a (.dK kvs) from I.hok a _ ea)
    obtain ⟨o, es, ep, h1, h2, _⟩ := p
    exact PySem.W.kia_one PySem.W.kitx_dict I.kIn ⟨o, h1, h2.1⟩ e (fun z => nomatch z) h
  | @dT a kvs ea =>
    cases (show u = Value.ref a from rx)
    obtain ⟨_, _, xs, _, o, es, ep, h1, h2, _⟩ := (show ObjOk X.prog X.w H s.heap a (.dT kvs) from I.hok a _ ea)
    exact PySem.W.kia_one PySem.W.kitx_dict I.kIn ⟨o, h1, h2.1⟩ e (fun z => nomatch z) h
  | @ins a C dx fs ea cl ha hn htk hm =>
    cases (show u = Value.ref a from rx)
    obtain ⟨mA, O, _⟩ := ins_get I.hok ea
    obtain ⟨od, J, _⟩ := O.look
    exact PySem.W.kia_one (PySem.W.kitx_own (cl.get _) cl.hd ha hn htk hm) I.kIn J e (fun z => nomatch z) h
end
end L2

namespace L2
open PySem PySem.Spec PyProof.Rows

/-! ### room -/
structure Room (k : Nat) (A : Around) : Prop where
  hd : A.handled = none
  dp : A.depth + 3 * k + 5 < recursionLimit
  un : A.units + 16 * k + 200 < cLine
theorem Room.mono {j k : Nat} {A : Around} (r : Room k A) (h : j ≤ k) : Room j A := ⟨r.hd, by have := r.dp; omega, by have := r.un; omega⟩
theorem Room.deeper {k : Nat} {A : Around} (r : Room (k + 1) A) (env : Env) : Room k (A.deeper env) :=
  ⟨r.hd, by have := r.dp; show A.depth + 1 + 3 * k + 5 < _; omega, by have := r.un; show A.units + 3 + 16 * k + 200 < _; omega⟩
theorem Room.depth {k : Nat} {A : Around} (r : Room k A) : A.depth < recursionLimit := by have := r.dp; omega
theorem Room.units {k : Nat} {A : Around} (r : Room k A) : A.units + 64 < cLine := by have := r.un; omega
/-! ### argument lists and displays -/
def tNil : TA := fun _ H Q => Q [] H
def tCons (ta : TE) (tr : TA) : TA := fun σ H Q => ta σ H fun x H1 => tr σ H1 fun xs H2 => Q (x :: xs) H2
section
variable {X : Cx} {e : Expr} {es : List Expr} {te : TE} {t : TA} {pos : Pos}
theorem pa_nil : PA X [] tNil := fun _ _ _ _ H Q I h => Calls.spliced_nil ⟨[], H, I, .nil, h⟩
theorem pa_cons (ha : PE X e te) (hr : PA X es t) (hs : starEach (e :: es) X.env = (false, eval e X.env) :: starEach es X.env := by rfl) : PA X (e :: es) (tCons te t) := by
  intro pos pins s σ H Q I h
  rw [hs]
  show wpAny _ _ (spliced ((false, eval e X.env) :: backTo pos (starEach es X.env))) _ _ s
  refine Calls.spliced_cons (thn (ha pins s σ H _ I h) fun u s1 ⟨x, H1, I1, r1, q1⟩ => ?_)
  exact thn (hr pos pins s1 σ H1 _ I1 q1) fun us s2 ⟨xs, H2, I2, r2, q2⟩ => ⟨x :: xs, H2, I2, .cons r1 r2, q2⟩

/-- a tuple, a list of written items -/
def tTup (t : TA) : TE := fun σ H Q => t σ H fun xs H1 => xs.length ≤ sizeLine ∧ ∀ p, H1 p = none → Q (.ref p) (upd H1 p (.tup xs))
def tLst (t : TA) : TE := fun σ H Q => t σ H fun xs H1 => xs.length ≤ sizeLine ∧ ∀ p, H1 p = none → Q (.ref p) (upd H1 p (.lst xs))
theorem pe_tup {x1} (h : PA X es t) : PE X (.Tuple es x1 pos) (tTup t) := by
  intro pins s σ H Q I hq
  refine wpAny_Tuple_spliced (thn (h pos pins s σ H _ I hq) fun us s1 ⟨xs, H1, I1, r, z, q⟩ => ⟨by rw [← r.length]; exact z, ?_⟩)
  have hf : H1 s1.heap.objs.size = none := I1.hok.fresh (Nat.le_refl _)
  refine ⟨.ref s1.heap.objs.size, upd H1 s1.heap.objs.size (.tup xs), I1.laid (t' := s1.toks) (fun b u e => Heap.get?_push_of_some _ e) (Nat.le_refl _) ?_, rfl, q _ hf⟩
  exact ⟨z, us, r, ⟨_, Heap.get?_push_size _ rfl, rfl, _, rfl⟩⟩
theorem pe_lst (h : PA X es t) : PE X (.List es pos) (tLst t) := by
  intro pins s σ H Q I hq
  refine wpAny_List_spliced (thn (h pos pins s σ H _ I hq) fun us s1 ⟨xs, H1, I1, r, z, q⟩ => ⟨by rw [← r.length]; exact z, ?_⟩)
  have hf : H1 s1.heap.objs.size = none := I1.hok.fresh (Nat.le_refl _)
  refine ⟨.ref s1.heap.objs.size, upd H1 s1.heap.objs.size (.lst xs), I1.laid (t' := s1.toks) (fun b u e => Heap.get?_push_of_some _ e) (Nat.le_refl _) ?_, rfl, q _ hf⟩
  exact ⟨z, us, 0, r, Heap.get?_push_size _ rfl⟩
end

/-! ### what a def promises -/
/-- a def's promise: the bound arguments in the parameters' order, the heap, the wanted end, the wanted exception -/
abbrev Sp := List V → Hp → VK → XK → Prop
/-- how an exception lies behind a call (file 08 gives it): the callers' frames, abstract heap and state ahead of the call, the wish, the exception, the state -/
abbrev CXT := List Env → Hp → Shared → XK → Value → Shared → Prop

/-- the state at a call -/
structure Env0 (P : Program) (w : World) (K : PySem.W.Frag) (mg : Str → Option Value) (base : Heap) (A : Around) (outer : List Env) (s : Shared) (H : Hp) : Prop where
  frames : A.frames = some outer
  mod : Mod K mg base
  bs : ∀ b o, base.get? b = some o → s.heap.get? b = some o ∧ H b = none
  bsz : base.objs.size ≤ s.heap.objs.size
  funs : s.heap.FunFrames base outer
  frf : ∀ b ∈ frs outer, H b = none
  hok : HOk P w H s.heap
  bare : AllBare s.gens
/-- a call's end -/
def CE (outer : List Env) (P : Program) (w : World) (H : Hp) (s : Shared) (Q : VK) (u : Value) (s' : Shared) : Prop :=
  ∃ v H', s'.os = s.os ∧ AllBare s'.gens ∧ Un (frs outer) [] H H' s.heap s'.heap ∧ HOk P w H' s'.heap ∧ RelV v u ∧ Q v H'
def CR (CX : CXT) (outer : List Env) (P : Program) (w : World) (H : Hp) (s : Shared) (Q : VK) (E : XK) (r : Result) (s' : Shared) : Prop :=
  match r with
  | .ok (.ret u) => CE outer P w H s Q u s'
  | .ok _ => False
  | .error e => CX outer H s E e s'
structure FnOk (P : Program) (w : World) (K : PySem.W.Frag) (mg : Str → Option Value) (base : Heap) (CX : CXT) (k : Nat) (f : Addr) (fd : FuncData) (ps : List Str) (sp : Sp) : Prop where
  len : ∀ vs H Q E, sp vs H Q E → vs.length = ps.length
  run : ∀ (A : Around) (outer : List Env) (s : Shared) (H : Hp) (args : Args) (us : List Value) (vs : List V) (Q : VK) (E : XK), Room k A → Env0 P w K mg base A outer s H → BindsTo s fd args (ps.zip us) → Vals vs us → sp vs H Q E →
    codeAny (model P w) A (.call (.ref f) args) (CR CX outer P w H s Q E) s
theorem FnOk.mono {P : Program} {w : World} {K : PySem.W.Frag} {mg : Str → Option Value} {base : Heap} {CX : CXT} {j k : Nat} {f : Addr} {fd : FuncData} {ps : List Str} {sp : Sp} (F : FnOk P w K mg base CX j f fd ps sp) (h : j ≤ k) :
    FnOk P w K mg base CX k f fd ps sp := ⟨F.len, fun A outer s H args us vs Q E hr => F.run A outer s H args us vs Q E (hr.mono h)⟩
section
variable {X : Cx} {pins : List (Addr × Obj)} {σ : St} {H : Hp} {s s' : Shared}
/-- from a body: what a callee wants -/
theorem Inv.env0 (I : Inv X pins σ H s) : Env0 X.prog X.w X.K X.mg X.base X.A X.stack s H :=
  ⟨I.ok.frames, I.ok.mod, I.bs, Nat.le_trans I.ok.bsz I.sz, I.stack, I.stkFree, I.hok, I.bare⟩
/-- behind a call -/
theorem Inv.after {Q : VK} {u : Value} (I : Inv X pins σ H s) (h : CE X.stack X.prog X.w H s Q u s') : EP X pins σ Q u s' := by
  obtain ⟨v, H', os, bare, un, hok, r, q⟩ := h
  obtain ⟨hh, g, d, t, os'⟩ := s'
  obtain rfl : os' = s.os := os
  exact ⟨v, H', I.call (h' := hh) (g' := g) (d' := d) (t' := t) (ch := []) un hok bare (fun b z => absurd z (by simp)), r, q⟩
end

/-! ### calls -/
/-- f(..): the written arguments, then the defaults dvs; E: what is wanted of an exception -/
def tCall (sp : Sp) (dvs : List V) (E : XK) (t : TA) : TE := fun σ H Q => t σ H fun vs H1 => sp (vs ++ dvs) H1 Q E
/-- how the parameters are bound: us the positional arguments, kw the keywords' values by name, ds the defaults that fill up -/
def Binds (K : PySem.W.Frag) (fd : FuncData) (ps : List Str) (ds : List Value) : Prop :=
  ∀ (s : Shared) (us : List Value), K.In s.heap → (us ++ ds).length = ps.length → BindsTo s fd ⟨us, []⟩ (ps.zip (us ++ ds))
/-- every parameter is given -/
theorem Binds.all {K : PySem.W.Frag} {fd : FuncData} {ps : List Str} (h : ∀ us : List Value, us.length = ps.length → bindArgs fd ⟨us, []⟩ = pure (ps.zip us)) : Binds K fd ps [] := fun s us _ hl => by
  rw [List.append_nil] at hl ⊢
  exact .of_eq (h us hl)

/-- an exception of a callee reaches what this body wants of exceptions -/
def Passes (CX : CXT) (X : Cx) (E : XK) : Prop := ∀ (pins : List (Addr × Obj)) (σ : St) (H : Hp) (s : Shared) (e : Value) (s' : Shared), Inv X pins σ H s → CX X.stack H s E e s' → X.xe e s'

section
variable {X : Cx} {CX : CXT} {k : Nat} {f C : Addr} {fd : FuncData} {ps : List Str} {sp : Sp} {dvs : List V} {ds : List Value} {E : XK} {x m : Str} {p pos apos : Pos} {e o : Expr} {es : List Expr} {ta : TE} {t : TA}

/-- the callee runs -/
theorem run_fn {pins : List (Addr × Obj)} {σ : St} {H : Hp} {s : Shared} {Q : VK} {us : List Value} {vs : List V} (F : FnOk X.prog X.w X.K X.mg X.base CX k f fd ps sp) (hr : Room k X.A) (hb : Binds X.K fd ps ds) (hd : Vals dvs ds) (hx : Passes CX X E)
    (I : Inv X pins σ H s) (r : Vals vs us) (h : sp (vs ++ dvs) H Q E) : wpAny (model X.prog X.w) X.A (call (.ref f) us) (EP X pins σ Q) X.xe s := by
  have r2 : Vals (vs ++ dvs) (us ++ ds) := r.append hd
  have hl : (us ++ ds).length = ps.length := by rw [← r2.length]; exact F.len _ _ _ _ h
  refine wpAny_call (codeAny_mono (F.run X.A X.stack s H ⟨us, []⟩ (us ++ ds) (vs ++ dvs) Q E hr I.env0 (hb s us I.kIn hl) r2 h) fun r s' hq => ?_)
  cases r with
  | error e => exact hx pins σ H s e s' I hq
  | ok fl =>
    cases fl with
    | ret u => exact I.after hq
    | next => exact False.elim hq
    | brk => exact False.elim hq
    | cont => exact False.elim hq

theorem pe_call (F : FnOk X.prog X.w X.K X.mg X.base CX k f fd ps sp) (hr : Room k X.A) (hg : Gl X x) (hm : X.mg x = some (.ref f)) (hk : PySem.W.keepIn X.K (.ref f) = true) (hb : Binds X.K fd ps ds) (hd : Vals dvs ds) (hx : Passes CX X E)
    (ha : PA X (e :: es) t) (hdb : (x == ("__debug__" : Str)) = false := by decide) (he : starEach (e :: es) X.env = (false, eval e X.env) :: starEach es X.env := by rfl) (hpl : (backTo pos (starEach es X.env)).any (·.1) = false := by rfl) :
    PE X (.Call (.Name x p) (e :: es) [] pos) (tCall sp dvs E t) := by
  intro pins s σ H Q I h
  refine wpAny_Call_Name_kw (ld_glob I hg hm ?_ hdb)
  refine PySem.W.callWith_K (h₀ := X.base) I.ok.mod.kin hk (thn (ha pos pins s σ H _ I h) fun us s1 ⟨vs, H1, I1, r, q⟩ => ⟨I1.kIn, ?_⟩) he hpl
  exact run_fn F hr hb hd hx I1 r q
end

/-! ### keywords -/
section
variable {X : Cx} {CX : CXT} {k : Nat} {f C : Addr} {fd : FuncData} {ps ks : List Str} {sp : Sp} {E : XK} {x m : Str} {p pos apos kpos : Pos} {e o : Expr} {es : List Expr} {kws : List Keyword} {te ta : TE} {t tk : TA} {nm : Option Str}
variable {g : List Value → List Value → List Value} {gV : List V → List V → List V}
end

/-! ### a def's body keeps its promise -/
/-- names: the parameters first -/
structure FnScope (N P : List Str) (sc : Scope) : Prop where
  kind : sc.kind = .function
  co : sc.isCoroutine = false
  gen : sc.isGenerator = false
  nd : N.Nodup
  pre : N.take P.length = P
  par : ∀ x ∈ P, sc.names.lookup x = some .local ∨ sc.names.lookup x = some .cell
  nofree : ∀ y ∈ sc.names, y.2 ≠ .free

theorem bindL_out {kindOf : Str → Option NameKind} {x : Str} : ∀ {binds : List (Str × Value)} {m : Str → Option Value}, (∀ v, (x, v) ∉ binds) → bindL kindOf binds m x = m x
  | [], _, _ => rfl
  | (n, v) :: r, m, h => by
    unfold bindL
    rw [bindL_out fun w hw => h w (List.mem_cons_of_mem _ hw)]
    split
    · have : x ≠ n := by rintro rfl; exact h v List.mem_cons_self
      simp [this]
    · rfl
theorem bindC_out {kindOf : Str → Option NameKind} {x : Str} : ∀ {binds : List (Str × Value)} {m : Str → Option Value}, (∀ v, (x, v) ∉ binds) → bindC kindOf binds m x = m x
  | [], _, _ => rfl
  | (n, v) :: r, m, h => by
    unfold bindC
    rw [bindC_out fun w hw => h w (List.mem_cons_of_mem _ hw)]
    split
    · rfl
    · have : x ≠ n := by rintro rfl; exact h v List.mem_cons_self
      simp [this]
theorem bindL_get {kindOf : Str → Option NameKind} {x : Str} {v : Value} : ∀ {P : List Str} {vs : List Value} {i : Nat} {m : Str → Option Value}, P.Nodup → P[i]? = some x → vs[i]? = some v → kindOf x = some .local →
    bindL kindOf (P.zip vs) m x = some v
  | [], _, _, _, _, h, _, _ => by simp at h
  | _ :: _, [], _, _, _, _, h, _ => by simp at h
  | p :: P, w :: vs, 0, m, nd, h1, h2, hk => by
    simp at h1 h2; subst h1; subst h2
    show bindL kindOf ((p, w) :: P.zip vs) m p = _
    unfold bindL
    rw [bindL_out fun v hv => (List.nodup_cons.mp nd).1 (List.of_mem_zip hv).1, if_pos hk]
    simp
  | p :: P, w :: vs, i + 1, m, nd, h1, h2, hk => by
    show bindL kindOf ((p, w) :: P.zip vs) m x = _
    unfold bindL
    exact bindL_get (i := i) (List.nodup_cons.mp nd).2 (by simpa using h1) (by simpa using h2) hk
theorem bindC_get {kindOf : Str → Option NameKind} {x : Str} {v : Value} : ∀ {P : List Str} {vs : List Value} {i : Nat} {m : Str → Option Value}, P.Nodup → P[i]? = some x → vs[i]? = some v → kindOf x ≠ some .local →
    bindC kindOf (P.zip vs) m x = some v
  | [], _, _, _, _, h, _, _ => by simp at h
  | _ :: _, [], _, _, _, _, h, _ => by simp at h
  | p :: P, w :: vs, 0, m, nd, h1, h2, hk => by
    simp at h1 h2; subst h1; subst h2
    show bindC kindOf ((p, w) :: P.zip vs) m p = _
    unfold bindC
    rw [bindC_out fun v hv => (List.nodup_cons.mp nd).1 (List.of_mem_zip hv).1, if_neg hk]
    simp
  | p :: P, w :: vs, i + 1, m, nd, h1, h2, hk => by
    show bindC kindOf ((p, w) :: P.zip vs) m x = _
    unfold bindC
    exact bindC_get (i := i) (List.nodup_cons.mp nd).2 (by simpa using h1) (by simpa using h2) hk

/-- the names' values at the entry -/
def start (N : List Str) (vs : List V) : St := vs.map some ++ List.replicate (N.length - vs.length) none

/-- the context of a def's body, at its entry; an exception leaves the frame, then lies as CX says -/
def cxOf (CX : CXT) (P : Program) (w : World) (K : PySem.W.Frag) (mg : Str → Option Value) (base : Heap) (N : List Str) (qual : Str) (scope : Scope) (f : Addr) (cd : Value) (A : Around) (outer : List Env) (s : Shared) (H : Hp) (E : XK) : Cx where
  prog := P
  w := w
  K := K
  mg := mg
  base := base
  A := A.deeper (envOfC qual scope s.heap.objs.size f cd)
  N := N
  s₀ := s
  H₀ := H
  env := envOfC qual scope s.heap.objs.size f cd
  outer := outer
  stack := envOfC qual scope s.heap.objs.size f cd :: outer
  ex := []
  calm := true
  fn := fun _ => true
  pn := []
  xe := fun e s' => wpAny (model P w) (A.deeper (envOfC qual scope s.heap.objs.size f cd)) (leaving (envOfC qual scope s.heap.objs.size f cd) e) (fun _ s'' => CX outer H s E e s'') (fun e' s'' => CX outer H s E e' s'') s'

theorem cell_has {sc : Scope} {n : Nat} {x : Str} (h : sc.names.lookup x = some .cell) : ∃ c, (cellsFrom n sc.names []).lookup x = some c := by
  have q := PySem.W.cellsFrom_some sc.names n [] (.inl h)
  exact Option.isSome_iff_exists.mp q

theorem inv_start {CX : CXT} {P : Program} {w : World} {K : PySem.W.Frag} {mg : Str → Option Value} {base : Heap} {N ps : List Str} {qual : Str} {scope : Scope} {f : Addr} {cd : Value} {A : Around} {outer : List Env} {s s1 : Shared} {H : Hp} {E : XK} {us : List Value} {vs : List V}
    (S : FnScope N ps scope) (hd : A.handled = none) (e0 : Env0 P w K mg base A outer s H) (hl : vs.length = ps.length) (r : Vals vs us)
    (x : InCallC s s.heap.objs.size (bindL (envOfC qual scope s.heap.objs.size f cd).kindOf (ps.zip us) fun _ => none) (cellsFrom (s.heap.objs.size + 1) scope.names []) (bindC (envOfC qual scope s.heap.objs.size f cd).kindOf (ps.zip us) fun _ => none) s1) :
    Inv (cxOf CX P w K mg base N qual scope f cd A outer s H E) [] (start N vs) H s1 := by
  have hpl : ps.length ≤ N.length := by have := congrArg List.length S.pre; rw [List.length_take] at this; omega
  obtain ⟨h1, tk, rfl, hk⟩ := x.done
  have noA : ∀ b : Addr, b ∉ (cxOf CX P w K mg base N qual scope f cd A outer s H E).ex := fun b z => absurd (show b ∈ ([] : List Addr) from z) (by simp)
  refine ⟨⟨e0.mod, S.kind, rfl, rfl, Nat.le_refl _, fun y z c h1 h2 => ?_, fun y hy => ?_, fun y c _ h => ?_, fun _ => hd, Around.frames_deeper e0.frames, .inr ⟨rfl, rfl⟩, fun b z => absurd z (noA b), e0.bs, e0.bsz, fun b _ _ => noA b, fun b z => absurd z (noA b), e0.funs, e0.frf⟩,
    rfl, e0.bare, Un.kept hk, ⟨_, x.toInCall.ns, fun i y v h1 h2 h3 => ?_⟩, fun y c h => ⟨_, x.cell y c h⟩, e0.hok.fresh (Nat.le_refl _), fun y c h => ?_, fun p hp => absurd (show p ∈ ([] : List (Addr × Obj)) from hp) (by simp), e0.hok.kept hk, ?_⟩
  · exact name_of_addr x.apart (PySem.mem_of_lookup h1) (PySem.mem_of_lookup h2)
  · have hy : scope.names.lookup y = some .cell ∨ scope.names.lookup y = some .free := hy
    rcases hy with hy | hy
    · exact cell_has hy
    · exact absurd rfl (S.nofree _ (PySem.mem_of_lookup hy))
  · exact Nat.le_of_lt (x.above y c (PySem.mem_of_lookup h))
  · have hi : i < vs.length := by
      unfold start at h2
      by_cases hi : i < vs.length
      · exact hi
      · rw [List.getElem?_append_right (by simpa using hi)] at h2
        rw [List.getElem?_replicate] at h2
        split at h2 <;> cases h2
    have ha : vs[i]? = some v := by
      unfold start at h2
      rw [List.getElem?_append_left (by simpa using hi), List.getElem?_map] at h2
      cases e : vs[i]? with
      | none => rw [e] at h2; cases h2
      | some a => rw [e] at h2; cases h2; rfl
    obtain ⟨u, hu, rv⟩ := r.get ha
    have hp : ps[i]? = some y := by
      rw [← S.pre, List.getElem?_take_of_lt (by omega)]; exact h1
    have ndP : ps.Nodup := by rw [← S.pre]; exact S.nd.sublist (List.take_sublist _ _)
    refine ⟨u, rv, ?_⟩
    rcases S.par y (List.mem_of_getElem? hp) with k | k
    · exact .inl ⟨k, bindL_get ndP hp hu k⟩
    · obtain ⟨c, e⟩ := cell_has (n := s.heap.objs.size + 1) k
      refine .inr ⟨.inl k, c, e, ?_⟩
      have q := x.cell y c e
      rw [bindC_get ndP hp hu (by show scope.names.lookup y ≠ _; rw [k]; decide)] at q
      exact q
  · exact e0.hok.fresh (Nat.le_of_lt (x.above y c (PySem.mem_of_lookup h)))
  · unfold start
    show _ = N.length
    rw [List.length_append, List.length_map, List.length_replicate]
    omega

/-- THE RULE: a def (or a method) of the text, by its body. The body's reading t is chosen for each entry; it is run at the parameters' values -/
theorem fn_of {CX : CXT} {P : Program} {w : World} {K : PySem.W.Frag} {mg : Str → Option Value} {base : Heap} {k : Nat} {f : Addr} {name qual : Str} {params : Arguments} {body : List Stmt} {scope : Scope} {dV kV doc pm cdv ct oc : Value} {an od : Option Addr}
    {osl : Array (Option Value)} {N ps : List Str} {sp : Sp} (lk : K.lookup f = some ⟨oc, od, .func (PySem.W.fnOf name qual params body scope dV kV doc pm an cdv ct), osl⟩) (hcd : PySem.W.codeIn K cdv qual = true) (S : FnScope N ps scope)
    (len : ∀ vs H Q E, sp vs H Q E → vs.length = ps.length)
    (hbody : ∀ (A : Around) (outer : List Env) (s : Shared) (H : Hp) (vs : List V) (Q : VK) (E : XK), Room k (A.deeper (envOfC qual scope s.heap.objs.size f cdv)) → sp vs H Q E →
      ∃ t, PSs (cxOf CX P w K mg base N qual scope f cdv A outer s H E) body t ∧ t { nx := fun _ H' => Q .non H', rt := Q } (start N vs) H) :
    FnOk P w K mg base CX (k + 1) f (PySem.W.fnOf name qual params body scope dV kV doc pm an cdv ct) ps sp := by
  refine ⟨len, fun A outer s H args us vs Q E hr e0 hb r hsp => ?_⟩
  have hl := len _ _ _ _ hsp
  have KX : K.In s.heap := e0.mod.kin.keeps fun b o e => (e0.bs b o e).1
  have lim : s.heap.NoLimit := e0.mod.nolimit.keeps fun b o e => (e0.bs b o e).1
  have hkind : ∀ y ∈ ps.zip us, scope.names.lookup y.1 = some .local ∨ (scope.names.lookup y.1 = some .cell ∧ ((cellsFrom (s.heap.objs.size + 1) scope.names []).lookup y.1).isSome = true) := fun ⟨n, v⟩ hy => by
    rcases S.par n (List.of_mem_zip hy).1 with q | q
    · exact .inl q
    · exact .inr ⟨q, PySem.W.cellsFrom_some _ _ _ (.inl q)⟩
  refine codeAny_call_function hr.depth (KX _ _ lk) rfl S.co S.gen rfl (PySem.W.codeRec_of KX hcd) (hb _ _ _ _ ?_)
  refine wpAny_newFunctionEnv_cells S.kind hkind fun env he s1 x => ?_
  subst he
  refine ⟨lim.keeps x.toInCall.keep, codeAny_func ?_⟩
  obtain ⟨t, ht, hq⟩ := hbody A outer s H vs Q E (hr.deeper _) hsp
  have I : Inv (cxOf CX P w K mg base N qual scope f cdv A outer s H E) [] (start N vs) H s1 := inv_start S hr.hd e0 hl r x
  refine wpAny_mono (ht [] s1 (start N vs) H _ I hq) (fun fl s' hs => ?_) fun e s' hs => hs
  have fin : ∀ {σ' : St} {H' : Hp} {v : V} {u : Value}, Inv (cxOf CX P w K mg base N qual scope f cdv A outer s H E) [] σ' H' s' → RelV v u → Q v H' → CE outer P w H s Q u s' :=
    fun {σ' H' v u} J rv q => ⟨v, H', J.os, J.bare, J.base, J.hok, rv, q⟩
  cases fl with
  | ret u =>
    obtain ⟨v, σ', H', J, rv, q⟩ := hs
    exact fin J rv q
  | next =>
    obtain ⟨σ', H', J, q⟩ := hs
    exact fin (v := V.non) (u := Value.none) J rfl q
  | brk =>
    obtain ⟨_, _, _, q⟩ := hs
    exact False.elim q
  | cont =>
    obtain ⟨_, _, _, q⟩ := hs
    exact False.elim q
end L2

namespace L2
open PySem PySem.Spec PyProof.Rows
section
variable {X : Cx} {x : Str} {p pos : Pos} {e : Expr} {es : List Expr} {t : TA} {id T : String} {r : List V → Hp → VK → Prop}

def tCB (r : List V → Hp → VK → Prop) (t : TA) : TE := fun σ H Q => t σ H fun vs H1 => r vs H1 Q
/-- f(e, ..), f a built-in function -/
theorem pe_callB (hc : CallR X (.builtin id) r) (hg : Gl X x) (hm : X.mg x = none) (hv : bootBuiltins x = some (.builtin id)) (ha : PA X (e :: es) t) (hn : x ≠ "__name__" := by decide) (hdb : (x == ("__debug__" : Str)) = false := by decide)
    (he : starEach (e :: es) X.env = (false, eval e X.env) :: starEach es X.env := by rfl) (hpl : (backTo pos (starEach es X.env)).any (·.1) = false := by rfl) : PE X (.Call (.Name x p) (e :: es) [] pos) (tCB r t) := by
  intro pins s σ H Q I h
  refine wpAny_Call_Name_kw (ld_blt I hg hm hv ?_ hn hdb)
  exact PyProof.Rows.callWith_builtin1 (thn (ha pos pins s σ H _ I h) fun us s1 ⟨vs, H1, I1, r1, q1⟩ => hc pins s1 σ H1 vs us Q I1 r1 q1) he hpl
/-- T(e, ..), T a built-in type -/
theorem pe_callTy (hc : CallR X (.type T) r) (hg : Gl X x) (hm : X.mg x = none) (hv : bootBuiltins x = some (.type T)) (ha : PA X (e :: es) t) (hn : x ≠ "__name__" := by decide) (hdb : (x == ("__debug__" : Str)) = false := by decide)
    (he : starEach (e :: es) X.env = (false, eval e X.env) :: starEach es X.env := by rfl) (hpl : (backTo pos (starEach es X.env)).any (·.1) = false := by rfl) : PE X (.Call (.Name x p) (e :: es) [] pos) (tCB r t) := by
  intro pins s σ H Q I h
  refine wpAny_Call_Name_kw (ld_blt I hg hm hv ?_ hn hdb)
  exact PyProof.Rows.callWith_type1 (thn (ha pos pins s σ H _ I h) fun us s1 ⟨vs, H1, I1, r1, q1⟩ => hc pins s1 σ H1 vs us Q I1 r1 q1) he hpl
end
end L2

namespace HT
open PySem PyProof.Rows

section
open PySem.SeqAt
open PySem.AutoSeq1 (wpAny_loadPart')
open PySem.MeetsSeq PySem.MeetsSeq2 PySem.MeetsSeq3

end

section
variable {prog : Program} {w : World} {A : Around} {E : Value → Shared → Prop} {s : Shared}

/-- t + u, t not empty -/
theorem cat_tup {t b : Addr} {vs ws : List Value} {Q : Value → Shared → Prop} (ht : IsTup s.heap t vs.toArray) (hb : IsTup s.heap b ws.toArray) (hv : vs ≠ [])
    (h1 : ws = [] → Q (.ref t) s) (h2 : ws ≠ [] → Q (.ref s.heap.objs.size) { s with heap := s.heap.push { cls := .type "tuple", data := .seq (vs ++ ws).toArray } })
    (hsz : vs.length + ws.length ≤ sizeLine) : wpAny (model prog w) A (binaryOp .Add (.ref t) (.ref b)) Q E s := by
  obtain ⟨⟨cls, dd, data, sl⟩, ho, hc, n, hd⟩ := id ht
  obtain ⟨⟨cls2, dd2, data2, sl2⟩, ho2, hc2, n2, hd2⟩ := id hb
  simp only at hc hd hc2 hd2
  subst hc hd hc2 hd2
  have e : vs.toArray ++ ws.toArray = (vs ++ ws).toArray := by simp
  by_cases hw : ws = []
  · exact concat_meets ⟨_, ho, rfl⟩ ⟨_, ho2, rfl⟩ noFill_tuple_add seq_tuple_add PySem.F.slot_tuple_add PySem.F.entry_tuple_add (PySem.F.args_tuple_add_2 _ _)
      (tuple_addW1 t b vs.toArray ws.toArray n n2 dd dd2 sl sl2 (by simpa using hv) (by simp [hw])) ⟨ho, ho2, h1 hw⟩
  · refine concat_meets ⟨_, ho, rfl⟩ ⟨_, ho2, rfl⟩ noFill_tuple_add seq_tuple_add PySem.F.slot_tuple_add PySem.F.entry_tuple_add (PySem.F.args_tuple_add_2 _ _)
      (tuple_addW2 t b vs.toArray ws.toArray n n2 dd dd2 sl sl2 (by simpa using hv) (by simpa using hw) (by rw [List.size_toArray, List.size_toArray]; exact hsz)) ⟨ho, ho2, ?_⟩
    rw [e]
    exact h2 hw

/-! ### t[a:b], not the whole -/
/-- a slice's bound as a place among n (d where it is left out) -/
def sIx (n d : Nat) : Option Int → Nat
  | none => d
  | some v => if v < 0 then (v + (n : Int)).toNat else min v.toNat n
theorem sIx_none (n d : Nat) : sIx n d none = d := rfl
theorem sIx_nat (n d k : Nat) : sIx n d (some (k : Int)) = min k n := by
  show (if (k : Int) < 0 then ((k : Int) + (n : Int)).toNat else min (k : Int).toNat n) = min k n
  rw [if_neg (by omega), Int.toNat_natCast]
theorem sIx_le (n d : Nat) (hd : d ≤ n) (o : Option Int) : sIx n d o ≤ n := by
  cases o with
  | none => exact hd
  | some v =>
    show (if v < 0 then (v + (n : Int)).toNat else min v.toNat n) ≤ n
    by_cases hv : v < 0
    · rw [if_pos hv]; omega
    · rw [if_neg hv]; exact Nat.min_le_right _ _
theorem clip_eq (v : Int) (n d : Nat) : (if v < 0 then max (v + (n : Int)) 0 else min v (n : Int)) = ((sIx n d (some v) : Nat) : Int) := by
  show (if v < 0 then max (v + (n : Int)) 0 else min v (n : Int)) = (((if v < 0 then (v + (n : Int)).toNat else min v.toNat n) : Nat) : Int)
  by_cases hv : v < 0
  · simp only [if_pos hv]; omega
  · simp only [if_neg hv]; omega
theorem adjust_gen (lo hi : Option Int) (n : Nat) : Builtin.Slice.sliceAdjust lo hi 1 (n : Int) = (((sIx n 0 lo : Nat) : Int), ((sIx n n hi : Nat) : Int)) := by
  have h1 : ¬ ((1 : Int) < 0) := by omega
  unfold Builtin.Slice.sliceAdjust
  simp only [h1, if_false]
  refine Prod.ext ?_ ?_
  · cases lo with
    | none => rfl
    | some v => exact clip_eq v n 0
  · cases hi with
    | none => rfl
    | some v => exact clip_eq v n n
theorem places_gen (i j : Nat) : Builtin.Slice.slicePlaces (i : Int) (j : Int) 1 = j - i := by
  unfold Builtin.Slice.slicePlaces
  have h1 : (1 : Int) > 0 := by omega
  simp only [h1, if_true, Int.ediv_one]
  split <;> omega
theorem slicePart_ {v : Value} {o : Option Int} {Q : Option Int → Shared → Prop} (p : IsPart v o) (h : Q o s) : wpAny (model prog w) A (Builtin.Slice.slicePartIndex v) Q E s := by
  cases p with
  | none => exact slicePart_none h
  | int i t => exact slicePart_int h
theorem sliceApplied_gen {sl : Addr} {vl vu : Value} {lo hi : Option Int} {n : Nat} {Q : Int × Int × Nat → Shared → Prop} (hs : s.heap.IsSliceOf sl vl vu .none) (pl : IsPart vl lo) (pu : IsPart vu hi)
    (h : Q (((sIx n 0 lo : Nat) : Int), 1, sIx n n hi - sIx n 0 lo) s) : wpAny (model prog w) A (Builtin.Slice.sliceApplied (.ref sl) (pure (n : Int))) Q E s := by
  obtain ⟨os, hos, hcs, hds⟩ := id hs
  unfold Builtin.Slice.sliceApplied Builtin.Slice.sliceFields
  refine wpAny_bind (wpAny_bind (wpAny_field hos hds (x := vl) rfl (wpAny_bind (wpAny_field hos hds (x := vu) rfl (wpAny_bind (wpAny_field hos hds (x := .none) rfl (wpAny_pure ?_)))))))
  refine wpAny_bind (slicePart_none ?_)
  show wpAny _ _ (if ((1 : Int) == 0) = true then _ else _) _ _ s
  rw [if_neg (by decide)]
  refine wpAny_bind (slicePart_ pl (wpAny_bind (slicePart_ pu (wpAny_bind (wpAny_pure ?_)))))
  show wpAny _ _ (match Builtin.Slice.sliceAdjust lo hi 1 (n : Int) with | (lo, hi) => pure (lo, (1 : Int), Builtin.Slice.slicePlaces lo hi 1)) _ _ s
  rw [adjust_gen lo hi n]
  show wpAny _ _ (pure (((sIx n 0 lo : Nat) : Int), (1 : Int), Builtin.Slice.slicePlaces ((sIx n 0 lo : Nat) : Int) ((sIx n n hi : Nat) : Int) 1)) _ _ s
  rw [places_gen]
  exact wpAny_pure h
theorem pick_gen (xs : Array Value) (i k : Nat) : ((List.range k).filterMap fun (m : Nat) => xs[((i : Int) + (m : Int) * 1).toNat]?).toArray = ((xs.toList.drop i).take k).toArray := by
  have e : (fun (m : Nat) => xs[((i : Int) + (m : Int) * 1).toNat]?) = fun m => xs[i + m]? := by
    funext m
    have : ((i : Int) + (m : Int) * 1).toNat = i + m := by omega
    rw [this]
  rw [e]
  have := pick_run xs i k
  rw [List.filterMap_map] at this
  have e2 : ((fun x => xs[x]?) ∘ fun x => i + x) = fun m => xs[i + m]? := rfl
  rw [e2] at this
  rw [this]

theorem getItem_tuple_cut {t sl : Addr} {items : Array Value} {vl vu : Value} {lo hi : Option Int} {Q : Value → Shared → Prop} (ht : IsTup s.heap t items) (hs : s.heap.IsSliceOf sl vl vu .none) (pl : IsPart vl lo) (pu : IsPart vu hi)
    (hw : ¬ (sIx items.size 0 lo = 0 ∧ sIx items.size items.size hi = items.size))
    (h : Q (.ref s.heap.objs.size) { s with heap := s.heap.push { cls := .type "tuple", data := .seq ((items.toList.drop (sIx items.size 0 lo)).take (sIx items.size items.size hi - sIx items.size 0 lo)).toArray } })
    (hsz : items.size ≤ sizeLine) : wpAny (model prog w) A (getItem (.ref t) (.ref sl)) Q E s := by
  have htake : sizeOk (.seq ((items.toList.drop (sIx items.size 0 lo)).take (sIx items.size items.size hi - sIx items.size 0 lo)).toArray) := by
    show ((items.toList.drop (sIx items.size 0 lo)).take (sIx items.size items.size hi - sIx items.size 0 lo)).toArray.size ≤ sizeLine
    rw [List.size_toArray, List.length_take, List.length_drop, Array.length_toList]
    omega
  have hj : sIx items.size items.size hi ≤ items.size := sIx_le _ _ (Nat.le_refl _) hi
  obtain ⟨os, hos, hcs, hds⟩ := id hs
  have hTs : s.TypeIs (.ref sl) "slice" := ⟨os, hos, hcs⟩
  unfold getItem
  try with_reducible refine wpAny_holding ?_
  first | refine wpAny_bind (wpAny_pure ?_) | skip
  refine wpAny_bind (wpAny_sequenceKey ht.typeIs (by decide) ?_)
  refine wpAny_bind (wpAny_callSpecial?_slot (name := Str.ofString "__getitem__") ht.typeIs PyProof.Rows.slot_tuple_getitem
    (wpAny_call_entry PyProof.Rows.slot_tuple_getitem ht.typeIs entry_tuple_getitem ?_ (args_tuple_getitem _ _)))
  show wpAny _ _ (Builtin.Tuple.tupleItemsOf (.ref t) >>= _) _ _ s
  refine wpAny_bind (tupleItemsOf_ ht ?_)
  refine wpAny_bind (wpAny_typeOf hTs ?_)
  rw [if_pos (by decide)]
  refine wpAny_bind (sliceApplied_gen hs pl pu ?_)
  have hno : ¬ ((((sIx items.size 0 lo : Nat) : Int) == 0 && (1 : Int) == 1 && (sIx items.size items.size hi - sIx items.size 0 lo) == items.size) = true) := by
    intro q
    rw [Bool.and_eq_true, Bool.and_eq_true] at q
    have q1 : ((sIx items.size 0 lo : Nat) : Int) = 0 := eq_of_beq q.1.1
    have q2 : sIx items.size items.size hi - sIx items.size 0 lo = items.size := eq_of_beq q.2
    exact hw ⟨by omega, by omega⟩
  show wpAny _ _ (if (((sIx items.size 0 lo : Nat) : Int) == 0 && (1 : Int) == 1 && (sIx items.size items.size hi - sIx items.size 0 lo) == items.size) = true then _ else _) _ _ s
  rw [if_neg hno, pick_gen]
  first
    | exact wpAny_bind (m := Builtin.Tuple.tupleExact _) (wpAny_newObj_type (wpAny_pure ⟨_, rfl, wpAny_pure h⟩) htake)
    | exact wpAny_bind (m := Builtin.Tuple.tupleExact _) (wpAny_newObj_type (wpAny_bind (wpAny_pure (wpAny_pure ⟨_, rfl, wpAny_pure h⟩))) htake)
    | exact wpAny_bind (wpAny_bind (m := Builtin.Tuple.tupleExact _) (wpAny_newObj_type (wpAny_pure (wpAny_pure ⟨_, rfl, wpAny_pure h⟩)) htake))
    | exact wpAny_bind (wpAny_bind (m := Builtin.Tuple.tupleExact _) (wpAny_newObj_type (wpAny_pure ⟨_, rfl, wpAny_pure h⟩) htake))
end
end HT

namespace L2
open PySem PySem.Spec PyProof.Rows

/-! ### the parts of a slice -/
abbrev TO := St → Hp → (Option Int → Hp → Prop) → Prop
/-- a slice's part (left out, or an int) -/
def PO (X : Cx) (e : Option Expr) (t : TO) : Prop :=
  ∀ (pins : List (Addr × Obj)) (s : Shared) (σ : St) (H : Hp) (Q : Option Int → Hp → Prop), Inv X pins σ H s → t σ H Q →
    wpAny (model X.prog X.w) X.A (evalPart e X.env) (fun u s' => ∃ o H', Inv X pins σ H' s' ∧ IsPart u o ∧ Q o H') X.xe s
def tNoPart : TO := fun _ H Q => Q none H
def tPart (t : TE) : TO := fun σ H Q => t σ H fun x H1 => ∃ i, x = .int i ∧ Q (some i) H1

theorem intsAre_of {ns : List Int} : ∀ {us : List Value}, Vals (ns.map V.int) us → IntsAre us ns := by
  induction ns with
  | nil => intro us r; rw [List.map_nil] at r; cases r; exact .nil
  | cons n ns ih =>
    intro us r
    rw [List.map_cons] at r
    cases r with
    | cons r1 r2 =>
      obtain ⟨t, e⟩ := r1
      subst e
      exact .cons n t (ih r2)

section
variable {X : Cx} {e : Expr} {te : TE} {lo hi : Option Expr} {tl th : TO} {pos p2 : Pos}

theorem po_none : PO X none tNoPart := by
  intro pins s σ H Q I h
  rw [evalPart_none]
  exact wpAny_pure ⟨none, H, I, .none, h⟩
theorem po_some (h : PE X e te) : PO X (some e) (tPart te) := by
  intro pins s σ H Q I hw
  rw [evalPart_some]
  refine thn (h pins s σ H _ I hw) fun u s1 ⟨x, H1, I1, r1, q1⟩ => ?_
  obtain ⟨i, rfl, q⟩ := q1
  obtain ⟨t, rfl⟩ := r1
  exact ⟨some i, H1, I1, .int i t, q⟩

/-- what a slice of a value is, by values: the slice object stands at sl -/
def SlR (X : Cx) (r : V → Option Int → Option Int → Hp → VK → Prop) : Prop :=
  ∀ (pins : List (Addr × Obj)) (s : Shared) (σ : St) (H : Hp) (x : V) (v vl vu : Value) (lo hi : Option Int) (sl : Addr) (Q : VK), Inv X pins σ H s → RelV x v → s.heap.IsSliceOf sl vl vu .none → IsPart vl lo → IsPart vu hi → r x lo hi H Q →
    ∃ T id, typeLookup (.type T) "__getitem__" = pure (some (.builtin id)) ∧ s.TypeIs v T ∧ wpAny (model X.prog X.w) X.A (getItem v (.ref sl)) (EP X pins σ Q) X.xe s
def tSl (r : V → Option Int → Option Int → Hp → VK → Prop) (te : TE) (tl th : TO) : TE := fun σ H Q => te σ H fun x H1 => tl σ H1 fun l H2 => th σ H2 fun u H3 => r x l u H3 Q
/-- a[lo:hi], any a -/
theorem pe_slice {r : V → Option Int → Option Int → Hp → VK → Prop} (hr : SlR X r) (he : PE X e te) (hl : PO X lo tl) (hu : PO X hi th) : PE X (.Subscript e (.Slice lo hi none p2) pos) (tSl r te tl th) := by
  intro pins s σ H Q I h
  refine Subscript_ (thn (he pins s σ H _ I h) fun v s1 ⟨x, H1, I1, r1, q1⟩ => ?_)
  refine wpAny_Slice (thn (hl pins s1 σ H1 _ I1 q1) fun vl s2 ⟨l, H2, I2, pl, q2⟩ => thn (hu pins s2 σ H2 _ I2 q2) fun vu s3 ⟨u, H3, I3, pu, q3⟩ => ?_)
  rw [evalPart_none]
  refine wpAny_pure ?_
  have I4 : Inv X pins σ H3 { s3 with heap := s3.heap.push { cls := .type "slice", data := .fields #[vl, vu, .none] } } := I3.kept (t' := s3.toks) fun b ob q => Heap.get?_push_of_some _ q
  obtain ⟨T, id, hT, ht, hg⟩ := hr pins { s3 with heap := s3.heap.push { cls := .type "slice", data := .fields #[vl, vu, .none] } } σ H3 x v vl vu l u s3.heap.objs.size Q I4 r1 (Heap.IsSliceOf.new ..) pl pu q3
  show wpAny (model X.prog X.w) X.A (subscriptTail e (.Slice lo hi none p2) v (.ref s3.heap.objs.size)) (EP X pins σ Q) X.xe { s3 with heap := s3.heap.push { cls := .type "slice", data := .fields #[vl, vu, .none] } }
  exact tail_any (ops := [.ref s3.heap.objs.size, v]) ht hT hg (by with_unfolding_all rfl)

/-- the items of xs[lo:hi] -/
def cutV (xs : List V) (lo hi : Option Int) : List V := (xs.drop (HT.sIx xs.length 0 lo)).take (HT.sIx xs.length xs.length hi - HT.sIx xs.length 0 lo)
theorem cutV_length (xs : List V) (lo hi : Option Int) : (cutV xs lo hi).length ≤ xs.length := by
  unfold cutV
  rw [List.length_take, List.length_drop]
  omega
/-- t[lo:hi], not the whole of it (the whole would be t itself) -/
def rSlT (K : PySem.W.Frag) : V → Option Int → Option Int → Hp → VK → Prop := fun x lo hi H Q => ∃ a xs, x = .ref a ∧ SqT K H a xs ∧
  ¬ (HT.sIx xs.length 0 lo = 0 ∧ HT.sIx xs.length xs.length hi = xs.length) ∧ ∀ p, H p = none → Q (.ref p) (upd H p (.tup (cutV xs lo hi)))
theorem sl_tup : SlR X (rSlT X.K) := by
  intro pins s σ H x v vl vu lo hi sl Q I rx hs pl pu h
  obtain ⟨a, xs, rfl, hx, hw, q⟩ := h
  cases rx
  obtain ⟨its, r, ht, hz⟩ := I.tuple hx
  have hlen : its.toArray.size = xs.length := by rw [List.size_toArray]; exact r.length.symm
  refine ⟨"tuple", _, PyProof.Rows.slot_tuple_getitem.lookup, ht.typeIs, ?_⟩
  refine HT.getItem_tuple_cut ht hs pl pu (by rw [hlen]; exact hw) ?_ (by rw [hlen]; exact hz)
  rw [hlen]
  refine ⟨.ref s.heap.objs.size, _, I.laid (t' := s.toks) (o := .tup (cutV xs lo hi)) (fun b ob q => Heap.get?_push_of_some _ q) (Nat.le_refl _) ?_, rfl, q _ (I.hok.fresh (Nat.le_refl _))⟩
  exact ⟨Nat.le_trans (cutV_length xs lo hi) hz, _, (r.drop (HT.sIx xs.length 0 lo)).take (HT.sIx xs.length xs.length hi - HT.sIx xs.length 0 lo), IsTup.new _ _⟩

/-! ### t < u, t + u -/
/-- t + u, t not empty: u empty gives t itself -/
def rCatT (K : PySem.W.Frag) : R2 := fun x y H Q => ∃ a b xs ys, x = .ref a ∧ y = .ref b ∧ SqT K H a xs ∧ SqT K H b ys ∧ xs ≠ [] ∧ xs.length + ys.length ≤ sizeLine ∧
  (ys = [] → Q (.ref a) H) ∧ (ys ≠ [] → ∀ p, H p = none → Q (.ref p) (upd H p (.tup (xs ++ ys))))
theorem Vals.nil_iff {xs : List V} {us : List Value} (r : Vals xs us) : us = [] ↔ xs = [] := by
  cases r with
  | nil => simp
  | cons _ _ => simp
theorem op_catT : OpR X (binaryOp .Add) (rCatT X.K) := by
  intro pins s σ H x y v u Q I rx ry h
  obtain ⟨a, b, xs, ys, rfl, rfl, ha, hb, hx, hz, q1, q2⟩ := h
  cases rx
  cases ry
  obtain ⟨its, r1, p1, _⟩ := I.tuple ha
  obtain ⟨its2, r2, p2, _⟩ := I.tuple hb
  refine HT.cat_tup p1 p2 (fun z => hx (r1.nil_iff.mp z)) (fun z => ⟨.ref a, H, I, rfl, q1 (r2.nil_iff.mp z)⟩) (fun z => ?_) (by rw [← r1.length, ← r2.length]; exact hz)
  refine ⟨.ref s.heap.objs.size, _, I.laid (t' := s.toks) (o := .tup (xs ++ ys)) (fun b ob q => Heap.get?_push_of_some _ q) (Nat.le_refl _) ?_, rfl, q2 (fun w => z (r2.nil_iff.mpr w)) _ (I.hok.fresh (Nat.le_refl _))⟩
  exact ⟨by rw [List.length_append]; exact hz, _, r1.append r2, IsTup.new _ _⟩
end
end L2

namespace L2
open PySem PySem.Spec PyProof.Rows

/-! ### places -/
/-- the place that an index of any sign means -/
def ixN (n : Nat) (i : Int) : Option Nat := if 0 ≤ i then (if i < n then some i.toNat else none) else if -(n : Int) ≤ i then some (i + n).toNat else none
def atI {α : Type} (xs : List α) (i : Int) : Option α := (ixN xs.length i).bind fun j => xs[j]?
theorem ixN_seq {n : Nat} {i : Int} {j : Nat} (h : ixN n i = some j) : seqIndex? i n = some j ∧ j < n ∧ -(n : Int) ≤ i ∧ i < n := by
  unfold ixN at h
  by_cases h0 : 0 ≤ i
  · rw [if_pos h0] at h
    by_cases h1 : i < n
    · rw [if_pos h1] at h
      have e : i.toNat = j := Option.some.inj h
      exact ⟨by rw [seqIndex_of h0 h1, e], by omega, by omega, h1⟩
    · rw [if_neg h1] at h; cases h
  · rw [if_neg h0] at h
    by_cases h1 : -(n : Int) ≤ i
    · rw [if_pos h1] at h
      have e : (i + n).toNat = j := Option.some.inj h
      exact ⟨by rw [seqIndex_neg (by omega) h1, e], by omega, h1, by omega⟩
    · rw [if_neg h1] at h; cases h
theorem atI_get {α : Type} {xs : List α} {i : Int} {v : α} (h : atI xs i = some v) : ∃ j, seqIndex? i xs.length = some j ∧ xs[j]? = some v ∧ j < xs.length ∧ -(xs.length : Int) ≤ i ∧ i < xs.length := by
  unfold atI at h
  cases e : ixN xs.length i with
  | none => rw [e] at h; cases h
  | some j =>
    rw [e] at h
    obtain ⟨h1, h2, h3, h4⟩ := ixN_seq e
    exact ⟨j, h1, h, h2, h3, h4⟩
theorem atI_nat {α : Type} {xs : List α} {j : Nat} {v : α} (h : xs[j]? = some v) : atI xs (j : Int) = some v := by
  have hj : j < xs.length := (List.getElem?_eq_some_iff.mp h).1
  have e : ixN xs.length (j : Int) = some j := by
    unfold ixN
    rw [if_pos (by omega), if_pos (by omega)]; simp
  unfold atI; rw [e]; exact h
/-! ### what may be subscripted -/
/-- what stands as an index of a plain subscript -/
def PlainIx (b : Expr) : Prop := ∀ o i, subscripted b false o i = operate [o, i] (getItem o i)
/-- a subscript by values -/
def IxR (X : Cx) (r : R2) : Prop :=
  ∀ (value slice : Expr) (pins : List (Addr × Obj)) (s : Shared) (σ : St) (H : Hp) (x y : V) (v u : Value) (Q : VK), Inv X pins σ H s → RelV x v → RelV y u → r x y H Q →
    subscripted slice false v u = operate [v, u] (getItem v u) → wpAny (model X.prog X.w) X.A (subscriptTail value slice v u) (EP X pins σ Q) X.xe s
/-- a call of a builtin's method by values: the receiver, the arguments -/
def MtR (X : Cx) (id : String) (r : V → List V → Hp → VK → Prop) : Prop :=
  ∀ (pins : List (Addr × Obj)) (s : Shared) (σ : St) (H : Hp) (x : V) (xs : List V) (v : Value) (us : List Value) (Q : VK), Inv X pins σ H s → RelV x v → Vals xs us → r x xs H Q →
    wpAny (model X.prog X.w) X.A (call (.builtin id) (v :: us)) (EP X pins σ Q) X.xe s
section
variable {X : Cx} {a b : Expr} {ta tb : TE} {pos : Pos}
/-- a[b] -/
theorem pe_ix {r : R2} (hr : IxR X r) (ha : PE X a ta) (hb : PE X b tb) (hs : PlainIx b) : PE X (.Subscript a b pos) (tOp r ta tb) := by
  intro pins s σ H Q I h
  exact Subscript_ (binT ha hb I h fun v u s2 x y H2 I2 rx ry q => hr a b pins s2 σ H2 x y v u Q I2 rx ry q (hs _ _))

def rIxL (K : PySem.W.Frag) : R2 := fun x y H Q => ∃ p xs i v, x = .ref p ∧ y = .int i ∧ SqL K H p xs ∧ atI xs i = some v ∧ Q v H
def rIxT (K : PySem.W.Frag) : R2 := fun x y H Q => ∃ p xs i v, x = .ref p ∧ y = .int i ∧ SqT K H p xs ∧ atI xs i = some v ∧ Q v H
def rIxS : R2 := fun x y H Q => ∃ z i c, x = .str z ∧ y = .int i ∧ z.length ≤ sizeLine ∧ atI z.cps.toList i = some c ∧ Q (.str ⟨#[c]⟩) H
theorem ix_list : IxR X (rIxL X.K) := by
  intro value slice pins s σ H x y v u Q I rx ry h hs
  obtain ⟨p, xs, i, z, rfl, rfl, hq, he, q⟩ := h
  cases rx
  obtain ⟨t, rfl⟩ := ry
  obtain ⟨its, r, pl, hz⟩ := I.list hq
  obtain ⟨j, h1, h2, h3, h4, h5⟩ := atI_get he
  obtain ⟨w, ew, rw'⟩ := r.get h2
  have hl := r.length
  have hn := line63
  have fin : EP X pins σ Q w s := ⟨z, H, I, rw', q⟩
  by_cases h0 : 0 ≤ i
  · have hj : i.toNat = j := by
      rw [seqIndex_of h0 h5] at h1
      exact Option.some.inj h1
    exact item_listR pl.isList h0 (by omega) (by rw [hj]; simpa using ew) fin hs
  · have hj : (i + (its.toArray.size : Int)).toNat = j := by
      rw [seqIndex_neg (by omega) h4] at h1
      rw [List.size_toArray, ← hl]
      exact Option.some.inj h1
    exact subscriptTail_builtinR (x := w) pl.isList.typeIs slot_list_getitem.lookup
      (wpAny_getItem_list_neg (Q := fun r s' => r = w ∧ EP X pins σ Q r s') pl.isList (by omega) (by rw [List.size_toArray] <;> omega) (by omega) (by rw [hj]; simpa using ew) ⟨rfl, fin⟩) hs
theorem ix_tup : IxR X (rIxT X.K) := by
  intro value slice pins s σ H x y v u Q I rx ry h hs
  obtain ⟨p, xs, i, z, rfl, rfl, hq, he, q⟩ := h
  cases rx
  obtain ⟨t, rfl⟩ := ry
  obtain ⟨its, r, pl, hz⟩ := I.tuple hq
  obtain ⟨j, h1, h2, h3, h4, h5⟩ := atI_get he
  obtain ⟨w, ew, rw'⟩ := r.get h2
  have hl := r.length
  have hn := line63
  have fin : EP X pins σ Q w s := ⟨z, H, I, rw', q⟩
  exact subscriptTail_builtinR (x := w) pl.typeIs slot_tuple_getitem.lookup
    (getItem_tuple (j := j) (Q := fun r s' => r = w ∧ EP X pins σ Q r s') pl (by omega) (by omega) (by rw [List.size_toArray, ← hl]; exact h1) (by simpa using ew) ⟨rfl, fin⟩) hs
theorem ix_str : IxR X rIxS := by
  intro value slice pins s σ H x y v u Q I rx ry h hs
  obtain ⟨z, i, c, rfl, rfl, hz, he, q⟩ := h
  obtain ⟨t, rfl⟩ := rx
  obtain ⟨t', rfl⟩ := ry
  obtain ⟨j, h1, h2, h3, h4, h5⟩ := atI_get he
  have hl : z.cps.toList.length = z.length := by simp [Str.length]
  rw [hl] at h1 h4 h5
  have hn := line63
  exact tail_any (typeIs_str s z t) slot_str_getitem.lookup (getItem_str (c := c) (by
    have e1 : decide (i < -(2 ^ 63 : Int)) = false := decide_eq_false (by omega)
    have e2 : decide (i ≥ 2 ^ 63) = false := decide_eq_false (by omega)
    rw [e1, e2, Bool.or_false]) (by rw [h1]; simpa using h2) ⟨.str ⟨#[c]⟩, H, I.tok _, ⟨_, rfl⟩, q⟩) hs
/-! ### xs[i] = v, any sign -/
/-- the list's object behind a store -/
theorem mapSeq_set (its : List Value) (n j : Nat) (u : Value) : Obj.mapSeq (·.setIfInBounds j u) { cls := .type "list", data := .seq its.toArray n } = { cls := .type "list", data := .seq (its.set j u).toArray n } := by
  simp [Obj.mapSeq]
theorem Inv.lst {pins : List (Addr × Obj)} {σ : St} {H : Hp} {s : Shared} {p : Addr} {xs : List V} (I : Inv X pins σ H s) (h : H p = some (.lst xs)) :
    ∃ (its : List Value) (n : Nat), Vals xs its ∧ s.heap.get? p = some { cls := .type "list", data := .seq its.toArray n } ∧ xs.length ≤ sizeLine := by
  obtain ⟨z, its, n, r, e⟩ := I.hok p _ h
  exact ⟨its, n, r, e, z⟩
/-- the list at p is written by an update of its object -/
theorem Inv.lstUpd {pins : List (Addr × Obj)} {σ : St} {H : Hp} {s : Shared} {p : Addr} {xs ys : List V} {its its' : List Value} {n n' : Nat} {f : Obj → Obj} (I : Inv X pins σ H s) (h : H p = some (.lst xs))
    (ho : s.heap.get? p = some { cls := .type "list", data := .seq its.toArray n }) (hf : f { cls := .type "list", data := .seq its.toArray n } = { cls := .type "list", data := .seq its'.toArray n' }) (r : Vals ys its') (hz : ys.length ≤ sizeLine) (t : Nat) :
    Inv X pins σ (upd H p (.lst ys)) { s with heap := s.heap.update p f, toks := t } := by
  have e : (s.heap.update p f).get? p = some { cls := .type "list", data := .seq its'.toArray n' } := by
    rw [Heap.get?_update_self f ho (by rw [hf] <;> rfl), hf]
  refine I.write (x := p) (e := p) (by rw [h]; trivial) (.inl rfl) (fun b u hb q => (Heap.get?_update_other _ _ (Ne.symm hb)).trans q) ⟨_, e⟩ ?_
  exact ⟨hz, its', n', r, e⟩
def rSetL : V → V → V → Hp → (Hp → Prop) → Prop := fun o i v H Q => ∃ p xs k j, o = .ref p ∧ i = .int k ∧ H p = some (.lst xs) ∧ ixN xs.length k = some j ∧ Q (upd H p (.lst (xs.set j v)))
theorem set_list : PSet X rSetL := by
  intro pins s σ H o i v ov iv u Q I ro ri rv h
  obtain ⟨p, xs, k, j, rfl, rfl, hp, hj, q⟩ := h
  cases ro
  obtain ⟨t, rfl⟩ := ri
  obtain ⟨its, n, r, ho, hz⟩ := I.lst hp
  obtain ⟨h1, h2, h3, h4⟩ := ixN_seq hj
  have hl := r.length
  have hn := line63
  have I' : Inv X pins σ (upd H p (.lst (xs.set j v))) { s with heap := s.heap.update p (Obj.mapSeq (·.setIfInBounds j u)) } :=
    I.lstUpd hp ho (mapSeq_set its n j u) (r.set rv j) (by rw [List.length_set]; exact hz) s.toks
  by_cases h0 : 0 ≤ k
  · have hk : k.toNat = j := by
      rw [seqIndex_of h0 h4] at h1
      exact Option.some.inj h1
    exact PySem.W.ki_setAt ho h0 (by omega) (by rw [List.size_toArray, ← hl]; exact h4) (by rw [hk]; exact ⟨_, I', q⟩)
  · have hk : (k + (its.toArray.size : Int)).toNat = j := by
      rw [seqIndex_neg (by omega) h3] at h1
      rw [List.size_toArray, ← hl]
      exact Option.some.inj h1
    exact PySem.W.ki_setBack ho (by omega) (by rw [List.size_toArray, ← hl]; exact h3) (by omega) (by rw [hk]; exact ⟨_, I', q⟩)

/-! ### slices -/
theorem slice_bounds (lo hi : Option Int) (n : Nat) : (sliceBounds lo hi none n).1 = ((HT.sIx n 0 lo : Nat) : Int) ∧ (sliceBounds lo hi none n).2.1 = ((HT.sIx n n hi : Nat) : Int) ∧ (sliceBounds lo hi none n).2.2 = 1 := by
  refine ⟨?_, ?_, rfl⟩
  · cases lo with
    | none => simp [sliceBounds, HT.sIx]
    | some i =>
      simp only [sliceBounds, HT.sIx, Option.getD_none, show (1 : Int) > 0 by decide, if_true]
      by_cases h : i < 0
      · simp only [h, if_true] <;> omega
      · simp only [h, if_false] <;> omega
  · cases hi with
    | none => simp [sliceBounds, HT.sIx]
    | some i =>
      simp only [sliceBounds, HT.sIx, Option.getD_none, show (1 : Int) > 0 by decide, if_true]
      by_cases h : i < 0
      · simp only [h, if_true] <;> omega
      · simp only [h, if_false] <;> omega
theorem slicePick_cut (its : List Value) (lo hi : Option Int) : slicePick its.toArray lo hi none = ((its.drop (HT.sIx its.length 0 lo)).take (HT.sIx its.length its.length hi - HT.sIx its.length 0 lo)).toArray := by
  obtain ⟨h1, h2, h3⟩ := slice_bounds lo hi its.toArray.size
  unfold slicePick
  rw [h1, h2, h3]
  simp only [sliceRange_one, pick_run, List.size_toArray] <;> rfl
/-- xs[lo:hi] of a list: a new list -/
def rSlL (K : PySem.W.Frag) : V → Option Int → Option Int → Hp → VK → Prop := fun x lo hi H Q => ∃ a xs, x = .ref a ∧ SqL K H a xs ∧ ∀ p, H p = none → Q (.ref p) (upd H p (.lst (cutV xs lo hi)))
theorem sl_list : SlR X (rSlL X.K) := by
  intro pins s σ H x v vl vu lo hi sl Q I rx hs pl pu h
  obtain ⟨a, xs, rfl, hx, q⟩ := h
  cases rx
  obtain ⟨its, r, ht, hz⟩ := I.list hx
  have hlen := r.length
  refine ⟨"list", _, slot_list_getitem.lookup, ht.isList.typeIs, ?_⟩
  refine wpAny_getItem_list_slice ht.isList hs pl pu .none (by simp) ?_ (by rw [List.size_toArray] <;> omega)
  rw [slicePick_cut, ← hlen]
  refine ⟨.ref s.heap.objs.size, _, I.laid (t' := s.toks) (o := .lst (cutV xs lo hi)) (fun b ob q => Heap.get?_push_of_some _ q) (Nat.le_refl _) ?_, rfl, q _ (I.hok.fresh (Nat.le_refl _))⟩
  exact ⟨Nat.le_trans (cutV_length xs lo hi) hz, _, 0, (r.drop (HT.sIx xs.length 0 lo)).take (HT.sIx xs.length xs.length hi - HT.sIx xs.length 0 lo), Heap.get?_push_size _ rfl⟩

/-! ### in, not in: flat items -/
def flatV : V → Bool
  | .non => true
  | .bl _ => true
  | .int _ => true
  | .str _ => true
  | _ => false
/-- == of flat values -/
def eqV : V → V → Bool
  | .non, .non => true
  | .bl a, .bl b => a == b
  | .bl a, .int b => (if a then 1 else 0) == b
  | .int a, .bl b => a == (if b then 1 else 0)
  | .int a, .int b => a == b
  | .str a, .str b => a == b
  | _, _ => false
theorem eqAt_V {A : Around} {s : Shared} {y x : V} {u v : Value} (ry : RelV y u) (rx : RelV x v) (fy : flatV y = true) (fx : flatV x = true) : SeqAt.EqAt A s u v (eqV y x) := by
  cases y with
  | non =>
    cases ry
    cases x with
    | non => cases rx; exact SeqAt.EqAt.same _
    | bl b => cases rx; exact SeqAt.EqAt.none_bool b
    | int b => obtain ⟨t, rfl⟩ := rx; exact SeqAt.EqAt.none_int b t
    | str b => obtain ⟨t, rfl⟩ := rx; exact SeqAt.EqAt.none_str b t
    | _ => exact absurd (show false = true from fx) Bool.false_ne_true
  | bl a =>
    cases ry
    cases x with
    | non => cases rx; exact SeqAt.EqAt.bool_none a
    | bl b => cases rx; exact SeqAt.EqAt.bool_bool a b
    | int b => obtain ⟨t, rfl⟩ := rx; exact SeqAt.EqAt.bool_int a b t
    | str b => obtain ⟨t, rfl⟩ := rx; exact SeqAt.EqAt.bool_str a b t
    | _ => exact absurd (show false = true from fx) Bool.false_ne_true
  | int a =>
    obtain ⟨t', rfl⟩ := ry
    cases x with
    | non => cases rx; exact SeqAt.EqAt.int_none a t'
    | bl b => cases rx; exact SeqAt.EqAt.int_bool a t' b
    | int b => obtain ⟨t, rfl⟩ := rx; exact SeqAt.EqAt.int_int a t' b t
    | str b => obtain ⟨t, rfl⟩ := rx; exact SeqAt.EqAt.int_str a t' b t
    | _ => exact absurd (show false = true from fx) Bool.false_ne_true
  | str a =>
    obtain ⟨t', rfl⟩ := ry
    cases x with
    | non => cases rx; exact SeqAt.EqAt.str_none a t'
    | bl b => cases rx; exact SeqAt.EqAt.str_bool a t' b
    | int b => obtain ⟨t, rfl⟩ := rx; exact SeqAt.EqAt.str_int a t' b t
    | str b => obtain ⟨t, rfl⟩ := rx; exact SeqAt.EqAt.str_str a t' b t
    | _ => exact absurd (show false = true from fx) Bool.false_ne_true
  | _ => exact absurd (show false = true from fy) Bool.false_ne_true
/-- the items' answers, read off the values (a value's own answer does not lean on its token) -/
def eqU (x : V) (u : Value) : Bool := match u with
  | .none => eqV .non x
  | .bool b => eqV (.bl b) x
  | .int i _ => eqV (.int i) x
  | .str z _ => eqV (.str z) x
  | _ => false
theorem eqU_of {x y : V} {u : Value} (r : RelV y u) (f : flatV y = true) : eqU x u = eqV y x := by
  cases y with
  | non => cases r; rfl
  | bl b => cases r; rfl
  | int i => obtain ⟨t, rfl⟩ := r; rfl
  | str z => obtain ⟨t, rfl⟩ := r; rfl
  | _ => exact absurd (show false = true from f) Bool.false_ne_true
theorem any_eqU {x : V} : ∀ {xs : List V} {us : List Value}, Vals xs us → xs.all flatV = true → us.any (eqU x) = xs.any fun y => eqV y x
  | _, _, .nil, _ => rfl
  | y :: xs, u :: us, .cons r t, f => by
    rw [List.all_cons, Bool.and_eq_true] at f
    rw [List.any_cons, List.any_cons, eqU_of r f.1, any_eqU t f.2]
theorem mem_eqAt {A : Around} {s : Shared} {x : V} {v : Value} (rx : RelV x v) (fx : flatV x = true) : ∀ {xs : List V} {us : List Value}, Vals xs us → xs.all flatV = true → ∀ u ∈ us, SeqAt.EqAt A s u v (eqU x u)
  | _, _, .nil, _ => fun u hu => by cases hu
  | y :: xs, u :: us, .cons r t, f => fun u' hu => by
    rw [List.all_cons, Bool.and_eq_true] at f
    rcases List.mem_cons.mp hu with rfl | hu
    · rw [eqU_of r f.1]; exact eqAt_V r rx f.1 fx
    · exact mem_eqAt rx fx t f.2 u' hu
def inV (x : V) (xs : List V) : Bool := xs.any fun y => eqV y x
/-- x in a list or tuple of flat items -/
def rIn (K : PySem.W.Frag) (neg : Bool) : R2 := fun x y H Q => ∃ p xs, y = .ref p ∧ (SqL K H p xs ∨ SqT K H p xs) ∧ flatV x = true ∧ xs.all flatV = true ∧ Q (.bl (if neg then !inV x xs else inV x xs)) H
theorem op_in_seq : OpR X (compareOp .In) (rIn X.K false) := by
  intro pins s σ H x y v u Q I rx ry h
  obtain ⟨p, xs, rfl, hq, fx, fs, q⟩ := h
  cases ry
  rcases hq with hq | hq
  · obtain ⟨its, r, pl, hz⟩ := I.list hq
    refine SeqAt.in_listAt (eqU x) pl.isList (fun w hw => mem_eqAt rx fx r fs w (by simpa using hw)) ⟨.bl _, H, I, rfl, ?_⟩
    rw [show its.toArray.any (eqU x) = its.any (eqU x) by simp, any_eqU r fs]
    exact q
  · obtain ⟨its, r, pl, hz⟩ := I.tuple hq
    refine SeqAt.in_tupleAt (eqU x) pl (fun w hw => mem_eqAt rx fx r fs w (by simpa using hw)) ⟨.bl _, H, I, rfl, ?_⟩
    rw [show its.toArray.any (eqU x) = its.any (eqU x) by simp, any_eqU r fs]
    exact q
/-! ### len, list(x), tuple(x) of any list or tuple that is read -/
theorem call_tuple_of : CallR X (.type "tuple") (fun xs H Q => ∃ p ys, xs = [.ref p] ∧ ((SqL X.K H p ys ∧ ∀ l, H l = none → Q (.ref l) (upd H l (.tup ys))) ∨ (SqT X.K H p ys ∧ Q (.ref p) H))) := by
  intro pins s σ H xs us Q I r h
  obtain ⟨p, ys, rfl, h⟩ := h
  obtain ⟨u, rfl, rx⟩ := vals1 r
  cases rx
  rcases h with ⟨hq, q⟩ | ⟨hq, q⟩
  · obtain ⟨its, r', pl, hz⟩ := I.list hq
    have hlen := r'.length
    refine call_tuple_list pl.isList (fun h' kp => ?_) (by simp only [List.size_toArray] <;> omega)
    have I1 : Inv X pins σ H { s with heap := h' } := I.kept (t' := s.toks) kp
    have I2 : Inv X pins σ (upd H h'.objs.size (.tup ys)) { s with heap := h'.push { cls := .type "tuple", data := .seq its.toArray } } :=
      I1.laid (t' := s.toks) (fun b o e => Heap.get?_push_of_some _ e) (Nat.le_refl _) (show ObjOk X.prog X.w _ _ _ (.tup ys) from ⟨hz, its, r', IsTup.new _ _⟩)
    exact ⟨.ref h'.objs.size, _, I2, rfl, q _ (I1.hok.fresh (Nat.le_refl _))⟩
  · obtain ⟨its, r', pl, hz⟩ := I.tuple hq
    exact call_tuple_same pl ⟨.ref p, H, I, rfl, q⟩

/-! ### the call of a builtin's method: o.m(..) -/
/-- the value is of that builtin type -/
def tyV (K : PySem.W.Frag) (T : String) (x : V) (H : Hp) : Prop := match x with
  | .str _ => T = "str"
  | .int _ => T = "int"
  | .ref p => (T = "list" ∧ ∃ xs, SqL K H p xs) ∨ (T = "tuple" ∧ ∃ o, K.lookup p = some o ∧ o.cls = .type "tuple" ∧ o.dict = none) ∨
      (T = "dict" ∧ ((∃ kvs, H p = some (.dK kvs)) ∨ ∃ kvs, H p = some (.dT kvs))) ∨ (T = "set" ∧ ∃ S n, H p = some (.set S n))
  | _ => False
theorem tyV_is {pins : List (Addr × Obj)} {σ : St} {H : Hp} {s : Shared} {T : String} {x : V} {v : Value} (I : Inv X pins σ H s) (r : RelV x v) (ty : tyV X.K T x H) :
    s.TypeIs v T ∧ ∀ a, v = .ref a → ∃ ob, s.heap.get? a = some ob ∧ ob.dict = none := by
  cases x with
  | str z =>
    obtain ⟨t, rfl⟩ := r
    cases (show T = "str" from ty)
    exact ⟨typeIs_str s z t, fun _ e => nomatch e⟩
  | int i =>
    obtain ⟨t, rfl⟩ := r
    cases (show T = "int" from ty)
    exact ⟨typeIs_int s i t, fun _ e => nomatch e⟩
  | ref p =>
    cases r
    rcases ty with ⟨rfl, xs, hq⟩ | ⟨rfl, o, hk, hc, hd⟩ | ⟨rfl, hk⟩ | ⟨rfl, S, n, hk⟩
    · obtain ⟨its, _, pl, _⟩ := I.list hq
      refine ⟨pl.isList.typeIs, fun a e => ?_⟩
      cases e
      obtain ⟨o, n, e, c, hd, _⟩ := pl
      exact ⟨o, e, hd⟩
    · refine ⟨⟨o, I.kIn p o hk, hc⟩, fun a e => ?_⟩
      cases e
      exact ⟨o, I.kIn _ o hk, hd⟩
    · have z : ∃ o, s.heap.get? p = some o ∧ o.ExactDict := by
        rcases hk with ⟨kvs, hk⟩ | ⟨kvs, hk⟩
        · obtain ⟨_, _, _, _, o, _, _, e, ex, _⟩ := I.hok p _ hk
          exact ⟨o, e, ex⟩
        · obtain ⟨_, _, _, _, o, _, _, e, ex, _⟩ := I.hok p _ hk
          exact ⟨o, e, ex⟩
      obtain ⟨o, e, ex⟩ := z
      refine ⟨⟨o, e, ex.1⟩, fun a e2 => ?_⟩
      cases e2
      exact ⟨o, e, ex.2.1⟩
    · obtain ⟨o, _, _, _, e, ex, _⟩ := I.hok p _ hk
      refine ⟨⟨o, e, ex.1⟩, fun a e2 => ?_⟩
      cases e2
      exact ⟨o, e, ex.2.1⟩
  | _ => exact False.elim ty
def tBM (K : PySem.W.Frag) (T : String) (r : V → List V → Hp → VK → Prop) (to : TE) (t : TA) : TE := fun σ H Q => to σ H fun x H1 => tyV K T x H1 ∧ t σ H1 fun xs H2 => r x xs H2 Q
variable {o e : Expr} {es : List Expr} {to : TE} {t : TA} {name : Str} {apos cpos : Pos} {T id : String} {r : V → List V → Hp → VK → Prop}
theorem pe_bm (pa : PlainAttrs T) (slot : Slot T name id) (hty : typeOf (.builtin id) = pure (.type "method_descriptor")) (hm : MtR X id r) (ho : PE X o to) (ha : PA X (e :: es) t)
    (hbase : attributeBase o name X.env (eval o X.env) = eval o X.env := by rfl)
    (hfew : ((backTo cpos (starEach (e :: es) X.env)).all (fun x => !x.1) && (backToKw cpos (keywordEach [] X.env)).all (fun x => x.1.isSome)
      && decide ((e :: es).length + ([] : List Keyword).length + (if ([] : List Keyword).isEmpty then 0 else 1) < 30)) = true := by rfl)
    (hline : (apos.endLine == cpos.line) = true := by rfl) (hs : starEach (e :: es) X.env = (false, eval e X.env) :: starEach es X.env := by rfl) (hplain : (backTo cpos (starEach es X.env)).any (·.1) = false := by rfl) :
    PE X (.Call (.Attribute o name apos) (e :: es) [] cpos) (tBM X.K T r to t) := by
  intro pins s σ H Q I h
  refine wpAny_Call_method_late hbase hfew hline rfl (thn (ho pins s σ H _ I h) fun v s1 ⟨x, H1, I1, r1, ty, q1⟩ => ?_)
  obtain ⟨h1, h2⟩ := tyV_is I1 r1 ty
  refine ⟨T, id, pa, slot, hty, h1, h2, ?_⟩
  have hA := ha cpos pins s1 σ H1 _ I1 q1
  rw [hs] at hA ⊢
  refine Calls.callWith_builtin (by show (false || (backTo cpos (starEach es X.env)).any (·.1)) = false; rw [hplain] <;> rfl) (Calls.evalArgs_plain ?_)
  exact thn hA fun us s2 ⟨vs, H2, I2, r2, q2⟩ => hm pins s2 σ H2 x vs v us Q I2 r1 r2 q2
/- xs.append(e), list.index on a module's tuple .. are MtR facts of 06m -/
end
end L2

namespace L2
open PySem PySem.Spec PyProof.Rows

def MtM (X : Cx) (id : String) (r : V → List V → Hp → VK → Prop) : Prop :=
  ∀ (pins : List (Addr × Obj)) (s : Shared) (σ : St) (H : Hp) (x : V) (xs : List V) (v : Value) (us : List Value) (Q : VK), Inv X pins σ H s → RelV x v → Vals xs us → r x xs H Q →
    wpAny (model X.prog X.w) X.A (call (.builtin id) (v :: us)) (EP X pins σ Q) X.xe s

/-! ### lists of values -/
theorem Vals.one : ∀ {x : V} {us : List Value}, Vals [x] us → ∃ u, us = [u] ∧ RelV x u
  | _, _, .cons r .nil => ⟨_, rfl, r⟩
theorem Vals.rep {xs : List V} {us : List Value} (h : Vals xs us) : ∀ k : Nat, Vals (List.replicate k xs).flatten (List.replicate k us).flatten
  | 0 => .nil
  | k + 1 => by
    rw [List.replicate_succ, List.replicate_succ, List.flatten_cons, List.flatten_cons]
    exact Vals.append h (Vals.rep h k)
theorem foldl_rep (its : List Value) : ∀ (k : Nat) (acc : List Value),
    List.foldl (fun x1 x2 => x1 ++ x2) acc.toArray (List.replicate k its.toArray) = (acc ++ (List.replicate k its).flatten).toArray
  | 0, acc => by simp
  | k + 1, acc => by
    have e : acc.toArray ++ its.toArray = (acc ++ its).toArray := by simp
    have e2 : (acc ++ its) ++ (List.replicate k its).flatten = acc ++ (List.replicate (k + 1) its).flatten := by
      rw [List.replicate_succ, List.flatten_cons, List.append_assoc]
    rw [← e2, ← foldl_rep its k (acc ++ its), ← e, List.replicate_succ, List.foldl_cons]

section
variable {X : Cx} {pins : List (Addr × Obj)} {σ : St} {H : Hp} {s : Shared} {l b : Addr} {xs ys zs : List V}

/-! ### the two steps: a tracked list is rewritten, a new list is laid -/
theorem Inv.lset {its its' : List Value} {n : Nat} {f : Array Value → Array Value} {t' : Nat} (I : Inv X pins σ H s) (hH : H l = some (.lst xs))
    (e : s.heap.get? l = some { cls := .type "list", data := .seq its.toArray n }) (hf : f its.toArray = its'.toArray) (hv : Vals ys its') (hz : ys.length ≤ sizeLine) :
    Inv X pins σ (upd H l (.lst ys)) { s with heap := s.heap.update l (Obj.mapSeq f), toks := t' } := by
  have q := PySem.IsL.update e f
  rw [hf] at q
  refine I.write (x := l) (e := l) (by rw [hH]; exact trivial) (.inl rfl) (fun b' u hb hu => (Heap.get?_update_other s.heap (Obj.mapSeq f) (Ne.symm hb)).trans hu) ⟨_, q⟩ ?_
  exact ⟨hz, its', _, hv, q⟩
theorem Inv.lnew {its : List Value} {t' : Nat} (I : Inv X pins σ H s) (hv : Vals ys its) (hz : ys.length ≤ sizeLine) :
    Inv X pins σ (upd H s.heap.objs.size (.lst ys)) { s with heap := s.heap.push { cls := .type "list", data := .seq its.toArray }, toks := t' } :=
  I.laid (fun _ _ q => Heap.get?_push_of_some _ q) (Nat.le_refl _) ⟨hz, its, 0, hv, Heap.get?_push_size _ rfl⟩
theorem Inv.fresh (I : Inv X pins σ H s) : H s.heap.objs.size = none := I.hok.fresh (Nat.le_refl _)
theorem Inv.lstM (I : Inv X pins σ H s) (hH : H l = some (.lst xs)) : xs.length ≤ sizeLine ∧ ∃ (its : List Value) (n : Nat), Vals xs its ∧ xs.length = its.length ∧ s.heap.get? l = some { cls := .type "list", data := .seq its.toArray n } := by
  obtain ⟨z, its, n, r, e⟩ := I.hok l _ hH
  exact ⟨z, its, n, r, r.length, e⟩

theorem notLongL {n : Nat} (h : n ≤ sizeLine) : Builtin.List.listTooLong n = false := by
  unfold Builtin.List.listTooLong
  exact decide_eq_false (by omega)
end

section
variable {X : Cx}

/-! ### methods -/
def rAppend : V → List V → Hp → VK → Prop := fun x vs H Q => ∃ l xs y, x = .ref l ∧ vs = [y] ∧ H l = some (.lst xs) ∧ xs.length < sizeLine ∧ Q .non (upd H l (.lst (xs ++ [y])))
theorem mt_append : MtM X "list.append" rAppend := by
  intro pins s σ H x vs v us Q I rx rv h
  obtain ⟨l, xs, y, rfl, rfl, hH, hz, q⟩ := h
  cases rx
  obtain ⟨u, rfl, ru⟩ := rv.one
  obtain ⟨z, its, n, r, hl, e⟩ := I.lstM hH
  refine call_meets F.slot_list_append ⟨_, e, rfl⟩ F.entry_list_append (F.args_list_append_2 _ _) (PySem.list_append l its.toArray n u (by rw [List.size_toArray]; omega)) ⟨e, ?_⟩
  refine ⟨.non, _, I.lset (its' := its ++ [u]) hH e (by simp) (r.append (.cons ru .nil)) ?_, rfl, q⟩
  rw [List.length_append, List.length_singleton]
  omega

def rExtend : V → List V → Hp → VK → Prop := fun x vs H Q => ∃ l b xs zs, x = .ref l ∧ vs = [.ref b] ∧ H l = some (.lst xs) ∧ H b = some (.lst zs) ∧ xs.length + zs.length ≤ sizeLine ∧ Q .non (upd H l (.lst (xs ++ zs)))
theorem mt_extend : MtM X "list.extend" rExtend := by
  intro pins s σ H x vs v us Q I rx rv h
  obtain ⟨l, b, xs, zs, rfl, rfl, hH, hB, hz, q⟩ := h
  cases rx
  obtain ⟨u, rfl, ru⟩ := rv.one
  cases ru
  obtain ⟨z, its, n, r, hl, e⟩ := I.lstM hH
  obtain ⟨z2, its2, n2, r2, hl2, e2⟩ := I.lstM hB
  have hsz : its.toArray.size + its2.toArray.size ≤ sizeLine := by rw [List.size_toArray, List.size_toArray]; omega
  have hlong : ¬ (!its.toArray.isEmpty && Builtin.List.listTooLong (its.toArray.size + its2.toArray.size)) = true := by
    rw [notLongL hsz, Bool.and_false]
    exact Bool.false_ne_true
  refine call_meets F.slot_list_extend ⟨_, e, rfl⟩ F.entry_list_extend (F.args_list_extend_2 _ _)
    (AutoSeq1.list_extend_list_list_0 l its.toArray n b its2.toArray n2 hlong (by rw [List.size_toArray]; omega) (by omega)) ⟨e, e2, ?_⟩
  refine ⟨.non, _, I.lset (its' := its ++ its2) hH e (by simp) (r.append r2) ?_, rfl, q⟩
  rw [List.length_append]
  omega

/-! ### list + list, list += list, list * int -/
def rCat : R2 := fun x y H Q => ∃ l b xs zs, x = .ref l ∧ y = .ref b ∧ H l = some (.lst xs) ∧ H b = some (.lst zs) ∧ xs.length + zs.length ≤ sizeLine ∧ ∀ p, H p = none → Q (.ref p) (upd H p (.lst (xs ++ zs)))
theorem op_cat : OpR X (binaryOp .Add) rCat := by
  intro pins s σ H x y v u Q I rx ry h
  obtain ⟨l, b, xs, zs, rfl, rfl, hH, hB, hz, q⟩ := h
  cases rx
  cases ry
  obtain ⟨z, its, n, r, hl, e⟩ := I.lstM hH
  obtain ⟨z2, its2, n2, r2, hl2, e2⟩ := I.lstM hB
  refine PySem.P.add_list e e2 ?_ (by rw [List.size_toArray, List.size_toArray]; omega)
  have ea : its.toArray ++ its2.toArray = (its ++ its2).toArray := by simp
  rw [ea]
  exact ⟨.ref _, _, I.lnew (t' := s.toks) (r.append r2) (by rw [List.length_append]; omega), rfl, q _ I.fresh⟩
/-- a list times an int (a negative one is nothing) -/
def rRep : R2 := fun x y H Q => ∃ l k xs, x = .ref l ∧ y = .int k ∧ H l = some (.lst xs) ∧ -(2 ^ 63) ≤ k ∧ k < 2 ^ 63 ∧ xs.length * k.toNat ≤ sizeLine ∧
  ∀ p, H p = none → Q (.ref p) (upd H p (.lst (List.replicate k.toNat xs).flatten))
theorem len_rep {α : Type} (xs : List α) (k : Nat) : (List.replicate k xs).flatten.length = k * xs.length := by
  induction k with
  | zero => simp
  | succ k ih => rw [List.replicate_succ, List.flatten_cons, List.length_append, ih, Nat.succ_mul, Nat.add_comm]
theorem op_rep : OpR X (binaryOp .Mult) rRep := by
  intro pins s σ H x y v u Q I rx ry h
  obtain ⟨l, k, xs, rfl, rfl, hH, h1, h2, hz, q⟩ := h
  cases rx
  obtain ⟨t, rfl⟩ := ry
  obtain ⟨z, its, n, r, hl, e⟩ := I.lstM hH
  have hlen : its.toArray.size * k.toNat ≤ sizeLine := by rw [List.size_toArray, ← hl]; exact hz
  have hcap : ¬ its.toArray.size * k.toNat > (2 ^ 63 - 1) / 8 := by
    have : (sizeLine : Nat) ≤ (2 ^ 63 - 1) / 8 := by decide
    omega
  have hfit : ¬ (!Builtin.List.listFitsIndex k) = true := by
    rw [fitsIndex_both h1 h2]
    exact Bool.false_ne_true
  have hlong : ¬ Builtin.List.listTooLong (its.toArray.size * k.toNat) = true := by
    rw [notLongL hlen]
    exact Bool.false_ne_true
  have hnew : List.foldl (fun x1 x2 => x1 ++ x2) #[] (List.replicate (if its.toArray.isEmpty = true then 0 else k.toNat) its.toArray) = (List.replicate k.toNat its).flatten.toArray := by
    have f0 : ∀ m : Nat, List.foldl (fun x1 x2 => x1 ++ x2) #[] (List.replicate m its.toArray) = (List.replicate m its).flatten.toArray := fun m => by
      have := foldl_rep its m []
      rw [List.nil_append] at this
      exact this
    rw [f0]
    cases its with
    | nil => simp
    | cons a r' => rw [if_neg (by simp)]
  refine wpAny_binaryOp_repeat_ref (T := "list") (U := "int") (by decide) ⟨_, e, rfl⟩ (fun s' => typeIs_int s' k t) noFill_list_mul F.fills_int_mul F.slot_int_rmul repeat_list F.slot_int_index.lookup
    (call_meets F.slot_int_rmul (typeIs_int s k t) F.entry_int_rmul (F.args_int_rmul_2 _ _) (int___rmul___int_list k t l its.toArray n)
      ⟨e, rfl, ⟨_, e, rfl⟩, call_meets F.slot_list_mul ⟨_, e, rfl⟩ F.entry_list_mul (F.args_list_mul_2 _ _) (AutoListH.list___mul___list_int_3 l its.toArray n k t hfit hcap hlong) ⟨e, ?_⟩⟩)
  rw [hnew]
  exact ⟨.ref _, _, I.lnew (t' := s.toks) (r.rep k.toNat) (by rw [len_rep, Nat.mul_comm]; exact hz), rfl, q _ I.fresh⟩

/-! ### del xs[i] -/
end

/-! ### xs[a:b] = ys -/
section
variable {prog : Program} {w : World} {A : Around} {E : Value → Shared → Prop} {s : Shared}
end

section
variable {X : Cx}
end
end L2

namespace L2
open PySem PySem.Spec PyProof.Rows

/-! ### lists of pairs as tables -/
section
variable {κ : Type} [DecidableEq κ]
def valV (kvs : List (κ × V)) (k : κ) : Option V := (kvs.find? fun kv => decide (kv.1 = k)).map (·.2)
/-- in its place, or at the end -/
def putK (kvs : List (κ × V)) (k : κ) (v : V) : List (κ × V) :=
  if (kvs.any fun kv => decide (kv.1 = k)) = true then kvs.map (fun kv => if kv.1 = k then (kv.1, v) else kv) else kvs ++ [(k, v)]
theorem valV_pos {p : κ × V} {r : List (κ × V)} {k : κ} (e : p.1 = k) : valV (p :: r) k = some p.2 := by simp [valV, List.find?_cons, e]
theorem valV_neg {p : κ × V} {r : List (κ × V)} {k : κ} (e : ¬ p.1 = k) : valV (p :: r) k = valV r k := by simp [valV, List.find?_cons, e]
theorem valV_any (k : κ) : ∀ kvs : List (κ × V), (kvs.any fun kv => decide (kv.1 = k)) = (valV kvs k).isSome
  | [] => rfl
  | p :: r => by
    rw [List.any_cons]
    by_cases e : p.1 = k
    · simp only [valV_pos e, decide_eq_true e, Bool.true_or, Option.isSome_some]
    · rw [valV_neg e, decide_eq_false e, Bool.false_or]; exact valV_any k r
theorem valV_map (k j : κ) (y : V) : ∀ kvs : List (κ × V), valV (kvs.map fun kv => if kv.1 = k then (kv.1, y) else kv) j = (valV kvs j).map fun x => if j = k then y else x
  | [] => rfl
  | p :: r => by
    have ih := valV_map k j y r
    rw [List.map_cons]
    by_cases h : p.1 = k
    · rw [if_pos h]
      by_cases e : p.1 = j
      · rw [valV_pos (p := (p.1, y)) e, valV_pos e, Option.map_some, if_pos (e.symm.trans h)]
      · rw [valV_neg (p := (p.1, y)) e, valV_neg e, ih]
    · rw [if_neg h]
      by_cases e : p.1 = j
      · rw [valV_pos (p := p) e, valV_pos e, Option.map_some, if_neg (fun z => h (e.trans z))]
      · rw [valV_neg (p := p) e, valV_neg e, ih]
theorem valV_snoc (k j : κ) (y : V) : ∀ kvs : List (κ × V), valV kvs k = none → valV (kvs ++ [(k, y)]) j = if j = k then some y else valV kvs j
  | [], _ => by
    by_cases e : k = j
    · rw [if_pos e.symm]; exact valV_pos (p := (k, y)) e
    · rw [if_neg (fun z => e z.symm)]; exact valV_neg (p := (k, y)) e
  | p :: r, hn => by
    rw [List.cons_append]
    have hk : ¬ p.1 = k := fun z => by rw [valV_pos z] at hn; cases hn
    rw [valV_neg hk] at hn
    have ih := valV_snoc k j y r hn
    by_cases e : p.1 = j
    · rw [valV_pos e, valV_pos e, if_neg (fun z => hk (e.trans z))]
    · rw [valV_neg e, valV_neg e, ih]
theorem valV_put (kvs : List (κ × V)) (k j : κ) (y : V) : valV (putK kvs k y) j = if j = k then some y else valV kvs j := by
  unfold putK
  by_cases a : (kvs.any fun kv => decide (kv.1 = k)) = true
  · rw [if_pos a, valV_map]
    rw [valV_any] at a
    by_cases e : j = k
    · obtain ⟨x, hx⟩ := Option.isSome_iff_exists.mp a
      rw [if_pos e, e, hx, Option.map_some, if_pos rfl]
    · rw [if_neg e]
      cases valV kvs j with
      | none => rfl
      | some x => rw [Option.map_some, if_neg e]
  · rw [if_neg a]
    refine valV_snoc k j y kvs ?_
    rw [valV_any] at a
    cases q : valV kvs k with
    | none => rfl
    | some x => rw [q] at a; exact (a rfl).elim
theorem length_putK (kvs : List (κ × V)) (k : κ) (v : V) : (putK kvs k v).length ≤ kvs.length + 1 := by
  unfold putK
  split
  · rw [List.length_map]; omega
  · rw [List.length_append, List.length_cons, List.length_nil]; omega
theorem RelO.isSome_eq {o : Option V} {u : Option Value} (r : RelO o u) : o.isSome = u.isSome := by
  cases o with
  | none => cases u with
    | none => rfl
    | some _ => exact (show False from r).elim
  | some _ => cases u with
    | none => exact (show False from r).elim
    | some _ => rfl
theorem RelO.getD {o : Option V} {u : Option Value} {d : V} {d' : Value} (r : RelO o u) (rd : RelV d d') : RelV (o.getD d) (u.getD d') := by
  cases o with
  | none => cases u with
    | none => exact rd
    | some _ => exact (show False from r).elim
  | some _ => cases u with
    | none => exact (show False from r).elim
    | some _ => exact r

/-- raw tables of the same keys -/
theorem KV.val {kvs : List (κ × V)} {vs : List (κ × Value)} (r : KV kvs vs) (k : κ) : RelO (valV kvs k) (valueAt vs k) := by
  unfold KV at r
  induction r with
  | nil => exact True.intro
  | @cons p q ps qs h t ih =>
    obtain ⟨h1, h2⟩ := h
    by_cases e : p.1 = k
    · have e' : q.1 = k := h1.symm.trans e
      have b : valueAt (q :: qs) k = some q.2 := by simp [valueAt, List.find?_cons, e']
      rw [valV_pos e, b]; exact h2
    · have e' : ¬ q.1 = k := fun z => e (h1.trans z)
      have b : valueAt (q :: qs) k = valueAt qs k := by simp [valueAt, List.find?_cons, e']
      rw [valV_neg e, b]; exact ih
theorem KV.any {kvs : List (κ × V)} {vs : List (κ × Value)} (r : KV kvs vs) (k : κ) : (kvs.any fun kv => decide (kv.1 = k)) = vs.any fun kv => decide (kv.1 = k) := by
  unfold KV at r
  induction r with
  | nil => rfl
  | cons h t ih => rw [List.any_cons, List.any_cons, ih, h.1]
theorem KV.repl {kvs : List (κ × V)} {vs : List (κ × Value)} (r : KV kvs vs) (k : κ) {y : V} {u : Value} (ry : RelV y u) :
    KV (kvs.map fun kv => if kv.1 = k then (kv.1, y) else kv) (vs.map fun kv => if kv.1 = k then (kv.1, u) else kv) := by
  unfold KV at r ⊢
  induction r with
  | nil => exact .nil
  | @cons p q ps qs h t ih =>
    rw [List.map_cons, List.map_cons]
    refine .cons ?_ ih
    obtain ⟨h1, h2⟩ := h
    by_cases e : p.1 = k
    · rw [if_pos e, if_pos (h1.symm.trans e)]; exact ⟨h1, ry⟩
    · rw [if_neg e, if_neg (fun z => e (h1.trans z))]; exact ⟨h1, h2⟩
theorem KV.put {kvs : List (κ × V)} {vs : List (κ × Value)} (r : KV kvs vs) (k : κ) {y : V} {u : Value} (ry : RelV y u) : KV (putK kvs k y) (stored vs k u) := by
  unfold putK stored
  rw [r.any k]
  by_cases e : (vs.any fun kv => decide (kv.1 = k)) = true
  · rw [if_pos e, if_pos e]; exact r.repl k ry
  · rw [if_neg e, if_neg e]; exact Paired.snoc r ⟨rfl, ry⟩
theorem KV.keys {kvs : List (κ × V)} {vs : List (κ × Value)} (r : KV kvs vs) : kvs.map (·.1) = vs.map (·.1) := by
  unfold KV at r
  induction r with
  | nil => rfl
  | cons h t ih => rw [List.map_cons, List.map_cons, ih, h.1]
theorem KV.length {kvs : List (κ × V)} {vs : List (κ × Value)} (r : KV kvs vs) : kvs.length = vs.length := Paired.length r
end


/-! ### a tracked dict, its keys ints and texts or tuples of these -/
theorem kV_is {P : Program} {w : World} {k : Key} {u : Value} (r : RelV (kV k) u) : (mixKind P w).is k u = true := by
  cases k with
  | inl i => obtain ⟨t, e⟩ := (show ∃ t, u = Value.int i t from r); subst e; exact mixKind_int P w i t
  | inr x => obtain ⟨t, e⟩ := (show ∃ t, u = Value.str x t from r); subst e; exact mixKind_str P w x t
theorem items_are {P : Program} {w : World} : ∀ {ks : List Key} {us : List Value}, Vals (ks.map kV) us → ItemsAre (mixKind P w) ks us
  | [], _, r => by rw [List.map_nil] at r; cases r; exact .nil
  | k :: ks, _, r => by
    rw [List.map_cons] at r
    cases r with
    | cons h t => exact .cons (kV_is h) (items_are t)

/-- raw entries of a dict with tuple keys -/
abbrev KT (H : Hp) : List (List Key × V) → List (List Key × Addr × Value) → Prop := Paired fun p q => p.1 = q.1 ∧ H q.2.1 = some (.tup (p.1.map kV)) ∧ RelV p.2 q.2.2
theorem KT.val {H : Hp} {kvs : List (List Key × V)} {xs : List (List Key × Addr × Value)} (r : KT H kvs xs) (k : List Key) : RelO (valV kvs k) ((atKey xs k).map (·.2)) := by
  induction r with
  | nil => exact True.intro
  | @cons p q ps qs h t ih =>
    obtain ⟨h1, _, h2⟩ := h
    by_cases e : p.1 = k
    · have e' : q.1 = k := h1.symm.trans e
      have b : atKey (q :: qs) k = some q.2 := by simp [atKey, List.find?_cons, e']
      rw [valV_pos e, b]; exact h2
    · have e' : ¬ q.1 = k := fun z => e (h1.trans z)
      have b : atKey (q :: qs) k = atKey qs k := by simp [atKey, List.find?_cons, e']
      rw [valV_neg e, b]; exact ih
theorem KT.repl {H : Hp} {kvs : List (List Key × V)} {xs : List (List Key × Addr × Value)} (r : KT H kvs xs) (k : List Key) {y : V} {u : Value} (ry : RelV y u) :
    KT H (kvs.map fun kv => if kv.1 = k then (kv.1, y) else kv) (xs.map (putAt k u)) := by
  induction r with
  | nil => exact .nil
  | @cons p q ps qs h t ih =>
    rw [List.map_cons, List.map_cons]
    refine .cons ?_ ih
    obtain ⟨h1, h2, h3⟩ := h
    unfold putAt
    by_cases e : p.1 = k
    · rw [if_pos e, if_pos (h1.symm.trans e)]; exact ⟨h1, h2, ry⟩
    · rw [if_neg e, if_neg (fun z => e (h1.trans z))]; exact ⟨h1, h2, h3⟩
theorem KT.put {H : Hp} {kvs : List (List Key × V)} {xs : List (List Key × Addr × Value)} (r : KT H kvs xs) (k : List Key) {b : Addr} {y : V} {u : Value} (hb : H b = some (.tup (k.map kV))) (ry : RelV y u) :
    KT H (putK kvs k y) (storedH xs k b u) := by
  have e : (kvs.any fun kv => decide (kv.1 = k)) = (atKey xs k).isSome := by
    rw [valV_any, (r.val k).isSome_eq, Option.isSome_map]
  unfold putK storedH
  rw [e]
  by_cases q : (atKey xs k).isSome = true
  · rw [if_pos q, if_pos q]; exact r.repl k ry
  · rw [if_neg q, if_neg q]; exact Paired.snoc r ⟨rfl, hb, ry⟩
theorem KT.keeps {H H' : Hp} {kvs : List (List Key × V)} {xs : List (List Key × Addr × Value)} (r : KT H kvs xs) (ht : ∀ b ys, H b = some (.tup ys) → H' b = some (.tup ys)) : KT H' kvs xs :=
  Paired.mapP r fun _ _ z => ⟨z.1, ht _ _ z.2.1, z.2.2⟩

section
variable {P : Program} {w : World} {H : Hp} {h : Heap} {a : Addr}
theorem rd_of {u : HO} (ok : HOk P w H h) (e : Rd H a u) : ObjOk P w H h a u := e.ok ok
theorem dk_rd {kvs : List (Key × V)} (ok : HOk P w H h) (e : Rd H a (.dK kvs)) : kvs.length ≤ sizeLine ∧ (a == sysModules) = false ∧ ∃ vs, KV kvs vs ∧ h.DictOf (mixKind P w) a vs :=
  show ObjOk P w H h a (.dK kvs) from rd_of ok e
theorem dk_of {kvs : List (Key × V)} (ok : HOk P w H h) (e : H a = some (.dK kvs)) : kvs.length ≤ sizeLine ∧ (a == sysModules) = false ∧ ∃ vs, KV kvs vs ∧ h.DictOf (mixKind P w) a vs := dk_rd ok (.inl e)
/-- a tracked tuple of ints and texts is a key -/
theorem key_of {ks : List Key} (ok : HOk P w H h) (e : H a = some (.tup (ks.map kV))) : (tupleKind (mixKind P w)).is h ks a := by
  obtain ⟨_, its, r, o, h1, h2, n, h3⟩ := (show ObjOk P w H h a (.tup (ks.map kV)) from ok a _ e)
  exact ⟨o, its.toArray, n, h1, h2, h3, by simpa using items_are r⟩
theorem dt_rd {kvs : List (List Key × V)} (ok : HOk P w H h) (e : Rd H a (.dT kvs)) : kvs.length ≤ sizeLine ∧ (a == sysModules) = false ∧
    ∃ xs, KT H kvs xs ∧ h.DictOfH (tupleKind (mixKind P w)) a xs := by
  obtain ⟨z, y, xs, r, o, es, ep, h1, h2, h3, h4, h5⟩ := (show ObjOk P w H h a (.dT kvs) from rd_of ok e)
  refine ⟨z, y, xs, r, o, es, ep, h1, h2, h3, h4, fun x hx => ?_, h5⟩
  have all : ∀ {l : List (List Key × V)} {m : List (List Key × Addr × Value)}, KT H l m → ∀ x ∈ m, (tupleKind (mixKind P w)).is h x.1 x.2.1 := by
    intro l m q
    induction q with
    | nil => intro x hx; exact nomatch hx
    | @cons p q ps qs hq t ih =>
      intro x hx
      rcases List.mem_cons.mp hx with e | hx
      · subst e
        exact key_of ok (by rw [← hq.1]; exact hq.2.1)
      · exact ih x hx
  exact all r x hx
theorem dt_of {kvs : List (List Key × V)} (ok : HOk P w H h) (e : H a = some (.dT kvs)) : kvs.length ≤ sizeLine ∧ (a == sysModules) = false ∧
    ∃ xs, KT H kvs xs ∧ h.DictOfH (tupleKind (mixKind P w)) a xs := dt_rd ok (.inl e)
end

/-- what the dict at a holds at the key y -/
def DGet (H : Hp) (a : Addr) (y : V) (r : Option V) : Prop :=
  (∃ kvs k, Rd H a (.dK kvs) ∧ y = kV k ∧ r = valV kvs k) ∨ ∃ kvs k b, Rd H a (.dT kvs) ∧ y = .ref b ∧ H b = some (.tup (k.map kV)) ∧ r = valV kvs k
/-- the heap behind a[y] = v -/
def DPut (H : Hp) (a : Addr) (y v : V) (H' : Hp) : Prop :=
  (∃ kvs k, H a = some (.dK kvs) ∧ y = kV k ∧ kvs.length < sizeLine ∧ H' = upd H a (.dK (putK kvs k v))) ∨
  ∃ kvs k b, H a = some (.dT kvs) ∧ y = .ref b ∧ H b = some (.tup (k.map kV)) ∧ kvs.length < sizeLine ∧ H' = upd H a (.dT (putK kvs k v))
theorem DGet.k {H : Hp} {a : Addr} {kvs : List (Key × V)} {k : Key} (e : H a = some (.dK kvs)) : DGet H a (kV k) (valV kvs k) := .inl ⟨kvs, k, .inl e, rfl, rfl⟩
theorem DPut.k {H : Hp} {a : Addr} {kvs : List (Key × V)} {k : Key} {v : V} (e : H a = some (.dK kvs)) (hl : kvs.length < sizeLine) : DPut H a (kV k) v (upd H a (.dK (putK kvs k v))) := .inl ⟨kvs, k, e, rfl, hl, rfl⟩
section
variable {X : Cx} {pins : List (Addr × Obj)} {σ : St} {H : Hp} {s : Shared} {a : Addr} {y v : V} {u r : Value} {o : Option V} {A : Around} {E : Value → Shared → Prop}

theorem Inv.big (I : Inv X pins σ H s) : sysModules < s.heap.objs.size := by
  have h : mainGlobals < s.heap.objs.size := (I.mod.glob.keeps I.bk).lt
  exact Nat.lt_trans (by decide) h

/-- d[y], there -/
theorem d_getItem {Q : Value → Shared → Prop} (hu : A.units + 1 < cLine) (I : Inv X pins σ H s) (g : DGet H a y (some v)) (ry : RelV y u) (h : ∀ w' s', Inv X pins σ H s' → RelV v w' → Q w' s') :
    wpAny (model X.prog X.w) A (getItem (.ref a) u) Q E s := by
  rcases g with ⟨kvs, k, e, ey, l⟩ | ⟨kvs, k, b, e, ey, eb, l⟩
  · subst ey
    obtain ⟨z, hd, vs, rel, dd⟩ := dk_rd I.hok e
    obtain ⟨w', hw, rw'⟩ := RelO.some_of (v := v) (o := valueAt vs k) (by rw [l]; exact rel.val k)
    exact wpAny_getItem_of (kV_is ry) dd.mapOf hw (h w' _ (I.tok _) rw')
  · subst ey
    cases (show u = Value.ref b from ry)
    obtain ⟨z, hd, xs, rel, dd⟩ := dt_rd I.hok e
    obtain ⟨w', hw, rw'⟩ := RelO.some_of (v := v) (o := (atKey xs k).map (·.2)) (by rw [l]; exact rel.val k)
    obtain ⟨p, hp, hp2⟩ := Option.map_eq_some_iff.mp hw
    refine wpAny_getItem_heap (tupleKind_room_in1 hu) (key_of I.hok eb) dd hp ?_
    rw [hp2]
    exact h w' _ (I.tok _) rw'
/-- a dict's object is replaced -/
theorem d_write {h' : Heap} {t' : Nat} {ob : HO} (I : Inv X pins σ H s) (mu : Mut (H a)) (hs : Heap.SameBut a s.heap h') (he : ∃ q, h'.get? a = some q) (new : ObjOk X.prog X.w (upd H a ob) h' a ob) :
    Inv X pins σ (upd H a ob) { s with heap := h', toks := t' } :=
  I.write (x := a) (e := a) mu (.inl rfl) (fun b q hb z => (hs.2 b hb).trans z) he new
theorem dk_new {P : Program} {w : World} {H' : Hp} {h' : Heap} {kvs : List (Key × V)} {vs : List (Key × Value)} (z : kvs.length ≤ sizeLine) (hd : (a == sysModules) = false) (rel : KV kvs vs) (dd : h'.DictOf (mixKind P w) a vs) :
    ObjOk P w H' h' a (.dK kvs) := ⟨z, hd, vs, rel, dd⟩
/-- d[y] = v -/
theorem d_setItem {H' : Hp} {Q : Unit → Shared → Prop} (hu : A.units + 1 < cLine) (I : Inv X pins σ H s) (g : DPut H a y v H') (ry : RelV y u) (rv : RelV v r) (h : ∀ s', Inv X pins σ H' s' → Q () s') :
    wpAny (model X.prog X.w) A (setItem (.ref a) u r) Q E s := by
  rcases g with ⟨kvs, k, e, ey, l, eH⟩ | ⟨kvs, k, b, e, ey, eb, l, eH⟩
  · subst ey eH
    obtain ⟨z, hd, vs, rel, dd⟩ := dk_of I.hok e
    have hz : vs.length ≤ sizeLine := by rw [← rel.length]; exact z
    have hl : (putK kvs k v).length ≤ sizeLine := by have := length_putK kvs k v; omega
    refine wpAny_setItem_pairs (hsz := hz) (kV_is ry) dd fun h' dd' hs => h _ ?_
    have he : ∃ q, h'.get? a = some q := let ⟨q, _, _, hq, _⟩ := dd'; ⟨q, hq⟩
    exact d_write I (by rw [e]; exact True.intro) hs he (dk_new hl hd (rel.put k rv) dd')
  · subst ey eH
    cases (show u = Value.ref b from ry)
    obtain ⟨z, hd, xs, rel, dd⟩ := dt_of I.hok e
    have hz : xs.length ≤ sizeLine := by rw [← Paired.length rel]; exact z
    have hl : (putK kvs k v).length ≤ sizeLine := by have := length_putK kvs k v; omega
    refine wpAny_setItem_heap (hsz := hz) (tupleKind_room_in1 hu) (key_of I.hok eb) dd fun h' dd' hs => h _ ?_
    obtain ⟨q, es, ep, hq, h2, h3, h4, _, h5⟩ := dd'
    refine d_write I (by rw [e]; exact True.intro) hs ⟨q, hq⟩ ⟨hl, hd, _, (rel.put k eb rv).keeps fun c ys ec => ?_, q, es, ep, hq, h2, h3, h4, h5⟩
    rw [upd_ne (ne_of ec e (fun z => nomatch z))]
    exact ec
end

section
variable {X : Cx} {pins : List (Addr × Obj)} {σ : St} {H : Hp} {s : Shared} {a : Addr} {kvs : List (Key × V)} {k : Key} {u : Value} {A : Around} {E : Value → Shared → Prop}
end


/-! ### readings and rules -/
/-- the element of a subscription, not a slice -/
def NoSl (i : Expr) : Prop := ∀ ov iv, subscripted i false ov iv = operate [ov, iv] (getItem ov iv)
theorem subD_of {prog : Program} {w : World} {A : Around} {E : Value → Shared → Prop} {s : Shared} {env : Env} {value slice : Expr} {pos : Pos} {T id : String} {Q : Value → Shared → Prop}
    (hl : typeLookup (.type T) "__getitem__" = pure (some (.builtin id))) (hs : NoSl slice)
    (h : wpAny (model prog w) A (eval value env) (fun o s₁ => wpAny (model prog w) A (eval slice env) (fun i s₂ => s₂.TypeIs o T ∧ wpAny (model prog w) A (getItem o i) Q E s₂) E s₁) E s) :
    wpAny (model prog w) A (eval (.Subscript value slice pos) env) Q E s := by
  refine Subscript_ (wpAny_mono h (fun o s₁ h₁ => wpAny_mono h₁ (fun i s₂ h₂ => ?_) fun _ _ x => x) fun _ _ x => x)
  obtain ⟨hT, h₂⟩ := h₂
  unfold subscriptTail
  refine wpAny_bind ?_
  rw [getitemInPython_of_ne hT.not_modules]
  refine wpAny_bind (wpAny_specialOf hT hl ?_)
  have fin : wpAny (model prog w) A (subscripted slice false o i) (fun r s₃ => wpAny (model prog w) A (letTemporaryGo value o r >>= fun _ => pure r) Q E s₃) E s₂ := by
    rw [hs o i]
    exact wpAny_operating (wpAny_mono h₂ (fun r s₃ h₃ => wpAny_bind (wpAny_letTemporaryGo (wpAny_pure h₃))) fun _ _ x => x)
  first
    | exact wpAny_pure (wpAny_bind fin)
    | exact wpAny_bind (wpAny_pure (wpAny_bind fin))
    | exact wpAny_bind fin

theorem dict_typeIs {X : Cx} {pins : List (Addr × Obj)} {σ : St} {H : Hp} {s : Shared} {a : Addr} {y : V} {o : Option V} (I : Inv X pins σ H s) (g : DGet H a y o) : s.TypeIs (.ref a) "dict" := by
  rcases g with ⟨kvs, k, e, _, _⟩ | ⟨kvs, k, b, e, _, _, _⟩
  · obtain ⟨_, _, vs, _, dd⟩ := dk_rd I.hok e
    exact dd.typeIs
  · obtain ⟨_, _, xs, _, dd⟩ := dt_rd I.hok e
    exact dd.typeIs
/-- d[y] -/
def tDGet (td ty : TE) : TE := fun σ H Q => td σ H fun x H1 => ty σ H1 fun y H2 => ∃ a v, x = .ref a ∧ DGet H2 a y (some v) ∧ Q v H2
/-- d[y] = v -/
def sDPut (td ty tv : TE) : TS := fun D σ H => tv σ H fun v H1 => td σ H1 fun x H2 => ty σ H2 fun y H3 => ∃ a H4, x = .ref a ∧ DPut H3 a y v H4 ∧ D.nx σ H4
section
variable {X : Cx} {o i e value : Expr} {pos pos' tpos : Pos} {td ty tv : TE}
theorem pe_dget (hu : X.A.units + 1 < cLine) (ho : PE X o td) (hi : PE X i ty) (hs : NoSl i) : PE X (.Subscript o i pos) (tDGet td ty) := by
  intro pins s σ H Q I h
  refine subD_of PySem.F.slot_dict_getitem.lookup hs (thn (ho pins s σ H _ I h) fun u s1 ⟨x, H1, I1, rx, q1⟩ => thn (hi pins s1 σ H1 _ I1 q1) fun iv s2 ⟨y, H2, I2, ry, a, v, ex, g, q2⟩ => ?_)
  subst ex
  obtain rfl : u = Value.ref a := rx
  exact ⟨dict_typeIs I2 g, d_getItem hu I2 g ry fun w' s3 I3 rw' => ⟨v, H2, I3, rw', q2⟩⟩
theorem ps_dput (hu : X.A.units + 1 < cLine) (ho : PE X o td) (hi : PE X i ty) (hv : PE X value tv) (hs : swapsWith value (some (.Subscript o i pos')) pos.line X.env = pure false) :
    PS X (.Assign [.Subscript o i pos'] value pos) (sDPut td ty tv) := by
  intro pins s σ H D I h
  refine wpAny_Assign_Subscript (thn (hv pins s σ H _ I h) fun r s1 ⟨v, H1, I1, rv, q1⟩ => thn (ho pins s1 σ H1 _ I1 q1) fun u s2 ⟨x, H2, I2, rx, q2⟩ => thn (hi pins s2 σ H2 _ I2 q2) fun iv s3 ⟨y, H3, I3, ry, a, H4, ex, g, q3⟩ => ?_) hs
  subst ex
  obtain rfl : u = Value.ref a := rx
  exact d_setItem hu I3 g ry rv fun s4 I4 => ⟨σ, H4, I4, q3⟩
end


/-! ### displays -/
theorem dk_empty {P : Program} {w : World} {H : Hp} (h : Heap) (hb : sysModules < h.objs.size) : ObjOk P w H (h.push { cls := .type "dict", data := .dict #[] }) h.objs.size (.dK []) :=
  ⟨Nat.zero_le _, beq_eq_false_iff_ne.mpr (Ne.symm (Nat.ne_of_lt hb)), [], .nil, Heap.DictOf.new h⟩
/-- {}, to be a dict of the kind that is wanted -/
def tDNewK : TE := fun _ H Q => ∀ p, H p = none → Q (.ref p) (upd H p (.dK []))
section
variable {X : Cx} {pos : Pos}
theorem pe_dnewK : PE X (.Dict [] [] pos) tDNewK := fun pins s σ H Q I h =>
  wpAny_Dict_empty ⟨.ref s.heap.objs.size, _, I.laid (a := s.heap.objs.size) (o := .dK []) (t' := s.toks) (fun _ _ q => Heap.get?_push_of_some _ q) (Nat.le_refl _) (dk_empty s.heap I.big), rfl, h _ (I.hok.fresh (Nat.le_refl _))⟩
end

/-- the pairs of a display, from the left -/
def tPairs : List (TE × TE) → St → Hp → (List (V × V) → Hp → Prop) → Prop
  | [], _, H, Q => Q [] H
  | (tk, tv) :: r, σ, H, Q => tk σ H fun x H1 => tv σ H1 fun y H2 => tPairs r σ H2 fun ps H3 => Q ((x, y) :: ps) H3
abbrev VV : List (V × V) → List (Value × Value) → Prop := Paired fun p q => RelV p.1 q.1 ∧ RelV p.2 q.2
def PPs (X : Cx) (pos : Pos) (keys : List (Option Expr)) (values : List Expr) (trs : List (TE × TE)) : Prop :=
  ∀ (pins : List (Addr × Obj)) (s : Shared) (σ : St) (H : Hp) (Q : List (V × V) → Hp → Prop), Inv X pins σ H s → tPairs trs σ H Q →
    wpAny (model X.prog X.w) X.A (evalPairs (pairTrees keys values X.env pos)) (fun vs s' => ∃ ps H', Inv X pins σ H' s' ∧ VV ps vs ∧ Q ps H') X.xe s
theorem pps_nil {X : Cx} {pos : Pos} : PPs X pos [] [] [] := fun pins s σ H Q I h => pairTrees_nil_walk ⟨[], H, I, .nil, h⟩
theorem pps_cons {X : Cx} {pos : Pos} {k v : Expr} {ks : List (Option Expr)} {vs : List Expr} {tk tv : TE} {trs : List (TE × TE)} (hk : PE X k tk) (hv : PE X v tv) (hr : PPs X pos ks vs trs) :
    PPs X pos (some k :: ks) (v :: vs) ((tk, tv) :: trs) := fun pins s σ H Q I h =>
  pairTrees_cons_walk (thn (hk pins s σ H _ I h) fun u s1 ⟨x, H1, I1, rx, q1⟩ => thn (hv pins s1 σ H1 _ I1 q1) fun w2 s2 ⟨y, H2, I2, ry, q2⟩ =>
    thn (hr pins s2 σ H2 _ I2 q2) fun ws s3 ⟨ps, H3, I3, rel, q3⟩ => ⟨(x, y) :: ps, H3, I3, .cons ⟨rx, ry⟩ rel, q3⟩)

def mergeK (kvs more : List (Key × V)) : List (Key × V) := more.foldl (fun acc kv => putK acc kv.1 kv.2) kvs
theorem KV.merge : ∀ {more : List (Key × V)} {rs : List (Key × Value)} {kvs : List (Key × V)} {vs : List (Key × Value)}, KV more rs → KV kvs vs → KV (mergeK kvs more) (merged vs rs) := by
  intro more rs kvs vs r
  unfold KV at r
  induction r generalizing kvs vs with
  | nil => intro q; exact q
  | @cons p q ps qs h t ih =>
    intro r0
    have e : KV (putK kvs p.1 p.2) (stored vs q.1 q.2) := by
      have := r0.put p.1 h.2
      rw [← h.1]; exact this
    exact ih e
theorem length_mergeK : ∀ (more kvs : List (Key × V)), (mergeK kvs more).length ≤ kvs.length + more.length
  | [], kvs => by show kvs.length ≤ kvs.length + 0; omega
  | p :: r, kvs => by
    have h1 := length_mergeK r (putK kvs p.1 p.2)
    have h2 := length_putK kvs p.1 p.2
    show (mergeK (putK kvs p.1 p.2) r).length ≤ _
    rw [List.length_cons]; omega
theorem carries_of {P : Program} {w : World} : ∀ {kvs : List (Key × V)} {ws : List (Value × Value)}, VV (kvs.map fun kv => (kV kv.1, kv.2)) ws → ∃ rs, Carries (mixKind P w) ws rs ∧ KV kvs rs
  | [], _, r => by rw [List.map_nil] at r; cases r; exact ⟨[], True.intro, .nil⟩
  | p :: kvs, _, r => by
    rw [List.map_cons] at r
    cases r with
    | @cons a b as bs h t =>
      obtain ⟨rs, c, q⟩ := carries_of (P := P) (w := w) t
      obtain ⟨b1, b2⟩ := b
      exact ⟨(p.1, b2) :: rs, ⟨kV_is h.1, rfl, c⟩, .cons ⟨rfl, h.2⟩ q⟩
/-- {k: v, ..} with keys ints and texts; the new dict stands empty while the pairs are made -/
def tDisp (trs : List (TE × TE)) : TE := fun σ H Q => ∀ p, H p = none → tPairs trs σ (upd H p (.dK [])) fun ps H2 => H2 p = some (.dK []) ∧ ∃ kvs : List (Key × V), ps = kvs.map (fun kv => (kV kv.1, kv.2)) ∧ kvs.length ≤ 15 ∧ Q (.ref p) (upd H2 p (.dK (mergeK [] kvs)))
theorem pe_disp {X : Cx} {pos : Pos} {keys : List (Option Expr)} {values : List Expr} {trs : List (TE × TE)} (h : PPs X pos keys values trs) (hall : keys.all (·.isSome) = true) (hl : keys.length = values.length) (h0 : keys ≠ [])
    (h15 : keys.length ≤ 15) : PE X (.Dict keys values pos) (tDisp trs) := by
  intro pins s σ H Q I q
  have hn := I.hok.fresh (Nat.le_refl s.heap.objs.size)
  have I1 := I.laid (a := s.heap.objs.size) (o := .dK []) (h' := s.heap.push { cls := .type "dict", data := .dict #[] }) (t' := s.toks) (fun _ _ q => Heap.get?_push_of_some _ q) (Nat.le_refl _) (dk_empty s.heap I.big)
  refine wpAny_Dict_walk (knd := mixKind X.prog X.w) hall hl h0 h15 (thn (h pins _ σ _ _ I1 (q _ hn)) fun ws s2 ⟨ps, H2, I2, rel, e, kvs, ep, lk, q2⟩ => ?_)
  subst ep
  obtain ⟨rs, c, rk⟩ := carries_of (P := X.prog) (w := X.w) rel
  obtain ⟨z, hd, vs0, r0, dd⟩ := dk_of I2.hok e
  cases r0
  refine ⟨rs, c, dd, fun h' dd' hs => ⟨.ref s.heap.objs.size, _, ?_, rfl, q2⟩⟩
  have hz : (mergeK [] kvs).length ≤ sizeLine := by
    have h1 := length_mergeK kvs []
    rw [List.length_nil] at h1
    rw [sizeLine_eq]; omega
  have he : ∃ q, h'.get? s.heap.objs.size = some q := let ⟨q, _, _, hq, _⟩ := dd'; ⟨q, hq⟩
  exact d_write I2 (by rw [e]; exact True.intro) hs he (dk_new hz hd (rk.merge .nil) dd')


/-! ### methods -/
structure M2 (X : Cx) (o : Expr) (m : Str) (apos : Pos) (e f : Expr) (cpos : Pos) : Prop where
  base : attributeBase o m X.env (eval o X.env) = eval o X.env
  few : ((backTo cpos (starEach [e, f] X.env)).all (fun x => !x.1) && (backToKw cpos (keywordEach [] X.env)).all (fun x => x.1.isSome)
    && decide (([e, f] : List Expr).length + ([] : List Keyword).length + (if ([] : List Keyword).isEmpty then 0 else 1) < 30)) = true
  line : (apos.endLine == cpos.line) = true
  trees : backTo cpos (starEach [e, f] X.env) = [(false, eval e X.env), (false, eval f X.env)]

/-- a is a dict, whatever its keys -/
def IsD (H : Hp) (a : Addr) : Prop := (∃ kvs, Rd H a (.dK kvs)) ∨ ∃ kvs, Rd H a (.dT kvs)
theorem isD_at {X : Cx} {pins : List (Addr × Obj)} {σ : St} {H : Hp} {s : Shared} {a : Addr} (I : Inv X pins σ H s) (d : IsD H a) :
    s.TypeIs (.ref a) "dict" ∧ (∀ b, Value.ref a = .ref b → ∃ ob, s.heap.get? b = some ob ∧ ob.dict = none) ∧ (a == sysModules) = false := by
  rcases d with ⟨kvs, e⟩ | ⟨kvs, e⟩
  · obtain ⟨_, hd, vs, _, dd⟩ := dk_rd I.hok e
    refine ⟨dd.typeIs, fun b q => ?_, hd⟩
    cases q
    obtain ⟨ob, _, _, h1, h2, _⟩ := dd
    exact ⟨ob, h1, h2.2.1⟩
  · obtain ⟨_, hd, xs, _, dd⟩ := dt_rd I.hok e
    refine ⟨dd.typeIs, fun b q => ?_, hd⟩
    cases q
    obtain ⟨ob, _, _, h1, h2, _⟩ := dd
    exact ⟨ob, h1, h2.2.1⟩

section
variable {X : Cx} {pins : List (Addr × Obj)} {σ : St} {H : Hp} {s : Shared} {a : Addr} {y d : V} {u r : Value} {o : Option V} {A : Around} {E : Value → Shared → Prop}
/-- d.get(y, x) -/
theorem d_get2 {Q : Value → Shared → Prop} (hu : A.units + 1 < cLine) (I : Inv X pins σ H s) (g : DGet H a y o) (ry : RelV y u) (rd : RelV d r) (h : ∀ w' s', Inv X pins σ H s' → RelV (o.getD d) w' → Q w' s') :
    wpAny (model X.prog X.w) A (call (.builtin "dict.get") [.ref a, u, r]) Q E s := by
  rcases g with ⟨kvs, k, e, ey, l⟩ | ⟨kvs, k, b, e, ey, eb, l⟩
  · subst ey
    obtain ⟨z, hd, vs, rel, dd⟩ := dk_rd I.hok e
    refine call_meetsIn PySem.F.slot_dict_get dd.typeIs PySem.F.entry_dict_get (PySem.F.args_dict_get_3 _ _ _) (meets_dict_get_default (mixKind X.prog X.w) a (kV_is ry) hd r) ⟨_, dd.mapOf, h _ _ (I.tok _) ?_⟩
    rw [l]
    exact (rel.val k).getD rd
  · subst ey
    cases (show u = Value.ref b from ry)
    obtain ⟨z, hd, xs, rel, dd⟩ := dt_rd I.hok e
    refine call_meetsIn PySem.F.slot_dict_get dd.typeIs PySem.F.entry_dict_get (PySem.F.args_dict_get_3 _ _ _) (meetsH_dict_get_default (tupleKind (mixKind X.prog X.w)) a b hd r) ⟨tupleKind_room_in1 hu, k, xs, key_of I.hok eb, dd, h _ _ (I.tok _) ?_⟩
    rw [l]
    exact (rel.val k).getD rd
end

def tDGet2 (td ty tx : TE) : TE := fun σ H Q => td σ H fun x H1 => ∃ a, x = .ref a ∧ IsD H1 a ∧ ty σ H1 fun y H2 => tx σ H2 fun z H3 => ∃ o, DGet H3 a y o ∧ Q (o.getD z) H3
section
variable {X : Cx} {o e f : Expr} {apos cpos : Pos} {td ty tx : TE}
theorem pe_dget2 (hu : X.A.units + 1 < cLine) (ho : PE X o td) (he : PE X e ty) (hf : PE X f tx) (m : M2 X o "get" apos e f cpos) : PE X (.Call (.Attribute o "get" apos) [e, f] [] cpos) (tDGet2 td ty tx) := by
  intro pins s σ H Q I h
  refine wpAny_Call_method m.base m.few m.line PySem.F.plainAttrs_dict PySem.F.slot_dict_get PySem.F.type_dict_get (thn (ho pins s σ H _ I h) fun u s1 ⟨x, H1, I1, rx, a, ex, d, q1⟩ => ?_)
  subst ex
  obtain rfl : u = Value.ref a := rx
  obtain ⟨t1, t2, _⟩ := isD_at I1 d
  refine ⟨t1, t2, ?_⟩
  rw [m.trees]
  refine Calls.callWith_builtin rfl (Calls.evalArgs_plain (Calls.spliced_cons (thn (he pins s1 σ H1 _ I1 q1) fun iv s2 ⟨y, H2, I2, ry, q2⟩ =>
    Calls.spliced_cons (thn (hf pins s2 σ H2 _ I2 q2) fun fv s3 ⟨z, H3, I3, rz, ov, g, q3⟩ => Calls.spliced_nil ?_))))
  exact d_get2 hu I3 g ry rz fun w' s4 I4 rw' => ⟨_, H3, I4, rw', q3⟩
end

/-! ### dict(d): a copy -/
section
variable {X : Cx} {pins : List (Addr × Obj)} {σ : St} {H : Hp} {s : Shared} {a : Addr} {kvs : List (Key × V)} {A : Around} {E : Value → Shared → Prop}
theorem d_copyOf {Q : Value → Shared → Prop} (I : Inv X pins σ H s) (e : Rd H a (.dK kvs)) (h : ∀ p s', H p = none → Inv X pins σ (upd H p (.dK kvs)) s' → Q (.ref p) s') : wpAny (model X.prog X.w) A (call (.type "dict") [.ref a]) Q E s := by
  obtain ⟨z, hd, vs, rel, dd⟩ := dk_rd I.hok e
  refine kt_call_dict hd dd (by rw [← rel.length]; exact z) fun h' dd' hs => ?_
  refine h _ _ (I.hok.fresh (Nat.le_refl _)) (I.laid (a := s.heap.objs.size) (o := .dK kvs) (t' := s.toks) (fun b q hq => ?_) (Nat.le_refl _) (dk_new z (beq_eq_false_iff_ne.mpr (Ne.symm (Nat.ne_of_lt I.big))) rel dd'))
  exact (hs.2 b (Nat.ne_of_lt (Heap.lt_size hq))).trans (Heap.get?_push_of_some _ hq)
end


section
variable {X : Cx} {pins : List (Addr × Obj)} {σ : St} {H : Hp} {s : Shared} {a : Addr} {y : V} {u : Value} {A : Around} {E : Value → Shared → Prop}
end
end L2

namespace Att
open PySem PySem.W PySem.Calls PyProof.Rows

/-! ### the script -/
theorem ints_of_wellAll {P : Params} {h : Heap} : ∀ (ns : List Int) (vs : List Value), WellAll P h vs (ns.map WData.int) → IntsAre vs ns := by
  intro ns
  induction ns with
  | nil =>
    intro vs w
    rw [List.map_nil] at w
    cases w
    exact .nil
  | cons n ns ih =>
    intro vs w
    rw [List.map_cons] at w
    cases w with
    | cons a b =>
      cases a
      exact .cons _ _ (ih _ b)

theorem script_of {l : OpenLaw} {n : Nat} (hn : l.most = some n) {P : Params} {h : Heap} {args : List WData} {vals : List Value}
    (hpre : l.row.toRowW.claim.pre args = true) (hwl : WellAll P h vals args) :
    ∃ a vs ns, vals = [Value.ref a] ∧ args = [WData.list (ns.map WData.int)] ∧ h.get? a = some { cls := .type "list", data := .seq vs.toArray } ∧ IntsAre vs ns ∧ ns.length ≤ n := by
  have hsh : WShape.hasAll [] args [.list .int] = true := (pre_splitW hpre).1
  have hc : l.pre.holds [] { args := args } = true := (pre_splitW hpre).2
  obtain ⟨d, r, rfl, h1, h2⟩ := hasAllW_cons hsh
  obtain rfl := hasAllW_nil h2
  obtain ⟨xs, rfl, h3⟩ := hasW_list h1
  obtain ⟨ns, rfl⟩ := items_int h3
  have hlen : ns.length ≤ n := by
    unfold OpenLaw.pre at hc
    have h4 : (WTm.not (.lt (.lit (.int (n : Int))) (.len (.arg 0)))).holds [] { args := [.list (ns.map .int)] } = true := by
      have h4 := (holds_andW hc).1
      rw [hn] at h4
      exact h4
    have h5 := condW_of h4 (w_not (w_lt w_lit (w_len_list (w_arg rfl))))
    rw [List.length_map] at h5
    refine Nat.le_of_not_lt fun q => ?_
    have q' : (n : Int) < ((ns.length : Nat) : Int) := by omega
    first
      | (rw [decide_eq_true q'] at h5; exact absurd h5 (by decide))
      | (simp at h5; omega)
  cases hwl with
  | cons w1 w2 =>
    cases w2
    cases w1 with
    | list ho hall => exact ⟨_, _, ns, rfl, rfl, ho, ints_of_wellAll ns _ hall, hlen⟩

theorem post_true (l : OpenLaw) (args : List WData) : l.row.toRowW.claim.post args (.bool true) args = true :=
  postW_of (r := l.row.toRowW) (X := (true == true))
    (show WShape.has [] (.bool true) .bool = true by first | rfl | decide | simp [WShape.has, WShape.arms, WShape.armsAll])
    (show (WTm.eq .res (.lit (.bool true))).value [] { args := args, res := some (.bool true), after := args } = some (.bool (true == true)) from w_eq_bool (w_res rfl) w_lit) rfl

/-! ### the attachment: holds_open's last premise (the goal 'hc' behind k_head) from a wpAny of the law's body -/
/-- the same from a codeAny of the CALL (for a layer whose function contracts speak of calls) -/
theorem attach_call {l : OpenLaw} {n : Nat} {q : Program} {loose : List Str} {XP : (Str → Option Value) → Heap → Prop} {YP : World → Heap → Prop} {d : DefRec}
    (hn : l.most = some n) (hdf : d.params.defaults = [])
    (call : ∀ (w : World) (s₀ s₁ : Shared) (mg mb : Str → Option Value) (fa : Addr) (o : Obj) (pm cd doc : Value) (a : Addr) (vs : List Value) (ns : List Int),
      Ground q loose [] XP w s₀ mg mb s₁.heap → YP w s₁.heap →
      s₁.heap.get? fa = some o → o.data = .func (docDef d.name d.params d.body d.scope pm cd doc) → s₁.heap.CodeRec cd d.name → mg d.name = some (.ref fa) →
      s₁.heap.get? a = some { cls := .type "list", data := .seq vs.toArray } → IntsAre vs ns → ns.length ≤ n → s₁.gens = #[] →
      codeAny (model l.prog w) callerA (.call (.ref fa) ⟨[.ref a], []⟩) (fun r s' => r = .ok (.ret (.bool true)) ∧ OldK s₁.heap s'.heap ∧ s'.os = s₁.os ∧ AllBare s'.gens) s₁) :
    WalkO q loose XP YP l.row.toRowW d [] (fun f vs => PySem.call f vs) := by
  intro w s₀ s₁ mg mb G Y fa o pm cd doc dV kV ho hd hcd hD hmg hg args vals as hpre hlay hrd hwl hlo
  obtain rfl : dV = .none := Dflts.none hD hdf
  obtain rfl : kV = .none := Dflts.noKw hD
  obtain ⟨a, vs, ns, rfl, rfl, hobj, hints, hlen⟩ := script_of hn hpre hwl
  refine enter_call (codeAny_mono (call w s₀ s₁ mg mb fa o pm cd doc a vs ns G Y ho (fd_plain hd) hcd hmg hobj hints hlen hg) fun r s' hq => ?_)
  obtain ⟨rfl, h2, h3, h4⟩ := hq
  exact ⟨.inl ⟨.bool true, .bool true, [], rfl, fun _ => rfl, .bool true, post_true l _, fun _ => ⟨List.Pairwise.nil, fun _ hm => (nomatch hm)⟩⟩, h2, h3, h4⟩

/-! ### rules over ANY heap (no ledger) from facts about the written part K: the library's own take a ledger (News) for what they write -/
section
variable {prog : Program} {w : World} {A : Around} {E : Value → Shared → Prop} {s : Shared} {K : Frag}

/-! the whole heap as the ledger: makes every rule that writes through a ledger a rule over any heap -/
def ledger (h : Heap) (L d : Addr) : List (Addr × Obj) := (List.range h.objs.size).filterMap fun a => if a = L ∨ a = d then none else (h.get? a).map fun o => (a, o)
end
end Att

namespace L2
open PySem PySem.Spec PyProof.Rows

theorem vals_ints : ∀ {vs : List Value} {ns : List Int}, IntsAre vs ns → Vals (ns.map V.int) vs
  | _, _, .nil => .nil
  | _, _, .cons n t h => .cons ⟨t, rfl⟩ (vals_ints h)

/-- nothing is tracked but the script, known to the object (or it is an object of the module) -/
def Only (H : Hp) : Prop := ∀ b, H b = none ∨ ∃ o xs, H b = some (.frz o (.lst xs))

/-- THE HEAD: the law's promise, at the heap behind the top. F, the promise of the law's def, may use that base is part of the heap (so K.In base, base.Ns mainGlobals mg stand in Mod) -/
theorem law_call {P : Program} {w : World} {K : PySem.W.Frag} {mg mb : Str → Option Value} {CX : CXT} {k : Nat} {fa a : Addr} {fd : FuncData} {x : Str} {sp : Sp} {s₁ : Shared} {vs : List Value} {ns : List Int}
    (KX : K.In s₁.heap) (hns : s₁.heap.Ns mainGlobals mg) (hb : s₁.heap.Ns builtinsNs mb) (hbb : ∀ x : Str, x ≠ "__name__" → mb x = bootBuiltins x) (hlim : s₁.heap.NoLimit) (hg : s₁.gens = #[])
    (ha : s₁.heap.get? a = some { cls := .type "list", data := .seq vs.toArray }) (hi : IntsAre vs ns) (hl : ns.length ≤ sizeLine) (hr : Room k callerA)
    (F : ∀ base : Heap, K.In base → base.Ns mainGlobals mg → FnOk P w K mg base CX k fa fd [x] sp) (hbind : ∀ (s : Shared) (u : Value), BindsTo s fd ⟨[u], []⟩ [(x, u)])
    (hsp : ∀ H : Hp, Only H → SqL K H a (ns.map V.int) → sp [.ref a] H (fun v _ => v = .bl true) fun _ _ _ => False)
    (hCX : ∀ H e s', CX [] H s₁ (fun _ _ _ => False) e s' → False) :
    codeAny (model P w) callerA (.call (.ref fa) ⟨[.ref a], []⟩) (fun r s' => r = .ok (.ret (.bool true)) ∧ OldK s₁.heap s'.heap ∧ s'.os = s₁.os ∧ AllBare s'.gens) s₁ := by
  have rv := vals_ints hi
  have lenV := hi.length
  have core : ∀ H : Hp, Only H → SqL K H a (ns.map V.int) → HOk P w H s₁.heap → (∀ b, H b ≠ none → b = a) → (H a ≠ none → K.lookup a = none) →
      codeAny (model P w) callerA (.call (.ref fa) ⟨[.ref a], []⟩) (fun r s' => r = .ok (.ret (.bool true)) ∧ OldK s₁.heap s'.heap ∧ s'.os = s₁.os ∧ AllBare s'.gens) s₁ := by
    intro H hO hS hok hA hK
    have base_of : ∀ {b : Addr} {o : Obj}, s₁.heap.get? b = some o → H b = none → (hidT s₁.heap H).get? b = some o := fun e n => hidT_get e n
    have noA : ∀ {b : Addr} {o : Obj} {es : Array DictEntry} {ep : Nat}, s₁.heap.get? b = some o → o.data = .dict es ep → H b = none := fun {b o es ep} e d => by
      cases q : H b with
      | none => rfl
      | some u =>
        have e' : b = a := hA b (by rw [q]; simp)
        subst e'
        rw [ha] at e; cases e
        have d' : Data.seq vs.toArray _ = Data.dict es ep := d
        cases d'
    have nsK : ∀ {b : Addr} {m : Str → Option Value}, s₁.heap.Ns b m → (hidT s₁.heap H).Ns b m := fun {b m} ⟨o, es, ep, e, d, r⟩ => ⟨o, es, ep, base_of e (noA e d), d, r⟩
    have hKb : K.In (hidT s₁.heap H) := fun b o e => base_of (KX b o e) (by
      cases q : H b with
      | none => rfl
      | some u =>
        have e' : b = a := hA b (by rw [q]; simp)
        subst e'
        rw [hK (by rw [q]; simp)] at e; cases e)
    have hM : Mod K mg (hidT s₁.heap H) := ⟨hKb, nsK hns, ⟨mb, nsK hb, hbb⟩, let ⟨mc, h1, h2⟩ := hlim; ⟨mc, nsK h1, h2⟩⟩
    have e0 : Env0 P w K mg (hidT s₁.heap H) callerA [] s₁ H := ⟨rfl, hM, fun b o e => of_hidT e, Nat.le_of_eq (hidT_size _ _), trivial, fun b hb => absurd (show b ∈ ([] : List Addr) from hb) (by simp), hok, .of_eq hg⟩
    refine codeAny_mono ((F _ hKb (nsK hns)).run callerA [] s₁ H ⟨[.ref a], []⟩ [.ref a] [.ref a] _ _ hr e0 (hbind s₁ (.ref a)) (.cons rfl .nil) (hsp H hO hS)) fun r s' h => ?_
    cases r with
    | error e => exact (hCX H e s' h).elim
    | ok fl =>
      cases fl with
      | next => exact False.elim h
      | brk => exact False.elim h
      | cont => exact False.elim h
      | ret u =>
        obtain ⟨v, H', os, bare, un, hok', r', q⟩ := h
        have q' : v = .bl true := q
        subst q'
        obtain rfl : u = Value.bool true := r'
        refine ⟨rfl, OldK.of_keep fun b o e => ?_, os, bare⟩
        cases q : H b with
        | none => exact un.keep b o e q (by intro z; exact absurd (show b ∈ ([] : List Addr) from z) (by simp)) (by simp)
        | some u =>
          rcases hO b with z | ⟨ob, xs, z⟩
          · rw [q] at z; cases z
          · have z2 := un.frzs b ob _ z
            obtain ⟨e1, _⟩ := hok b _ z
            obtain ⟨e2, _⟩ := hok' b _ z2
            rw [e] at e1; cases e1
            exact e2
  cases hk : K.lookup a with
  | some o =>
    have e := KX a o hk
    rw [ha] at e
    cases e
    refine core (fun _ => none) (fun _ => .inl rfl) (.inr ⟨_, vs.toArray, _, hk, rfl, rfl, rfl, by rw [List.size_toArray, lenV]; exact hl, by simpa using rv⟩) (fun b u z => by have z' : (none : Option HO) = some u := z; cases z') (fun b z => absurd rfl z) fun z => absurd rfl z
  | none =>
    refine core (fun b => if b = a then some (.frz { cls := .type "list", data := .seq vs.toArray } (.lst (ns.map V.int))) else none) (fun b => ?_) (.inl (.inr ⟨{ cls := .type "list", data := .seq vs.toArray }, if_pos rfl⟩)) (fun b u z => ?_) (fun b z => ?_) fun _ => hk
    · by_cases hb : b = a
      · exact .inr ⟨_, _, if_pos hb⟩
      · exact .inl (if_neg hb)
    · by_cases hb : b = a
      · have z' := (if_pos hb).symm.trans z
        cases z'
        subst hb
        exact ⟨ha, by rw [List.length_map]; exact hl, vs, _, rv, ha⟩
      · have z' := (if_neg hb).symm.trans z
        cases z'
    · by_cases hb : b = a
      · exact hb
      · exact absurd (if_neg hb) z
end L2

namespace L2
open PySem PySem.Spec PyProof.Rows

/-- the goal that k_head leaves (case hc), from the law's promise. F gives the function object fd (K's own) once, then the promise over every base -/
theorem walk_of {l : PySem.W.OpenLaw} {n k : Nat} {q : Program} {loose : List Str} {XP : (Str → Option Value) → Heap → Prop} {YP : World → Heap → Prop} {d : DefRec} {K : Params → PySem.W.Frag} {CX : World → CXT} {sp : World → Sp} {x : Str}
    (hn : l.most = some n) (hn2 : n ≤ sizeLine) (hdf : d.params.defaults = []) (hr : Room k callerA)
    (hY : ∀ (w : World) (h : Heap), YP w h → (K w.params).In h)
    (F : ∀ (w : World) (mg : Str → Option Value) (fa : Addr) (h : Heap), (K w.params).In h → h.Ns mainGlobals mg → mg d.name = some (.ref fa) →
      ∃ fd : FuncData, (∀ (s : Shared) (u : Value), BindsTo s fd ⟨[u], []⟩ [(x, u)]) ∧
        ∀ base : Heap, (K w.params).In base → base.Ns mainGlobals mg → FnOk l.prog w (K w.params) mg base (CX w) k fa fd [x] (sp w))
    (hsp : ∀ (w : World) (H : Hp) (a : Addr) (ns : List Int), ns.length ≤ n → Only H → SqL (K w.params) H a (ns.map V.int) → sp w [.ref a] H (fun v _ => v = .bl true) fun _ _ _ => False)
    (hCX : ∀ (w : World) (H : Hp) (s : Shared) (e : Value) (s' : Shared), CX w [] H s (fun _ _ _ => False) e s' → False) :
    PySem.W.WalkO q loose XP YP l.row.toRowW d [] (fun f vs => PySem.call f vs) := by
  refine Att.attach_call hn hdf fun w s₀ s₁ mg mb fa o pm cd doc a vs ns G Y ho hd hcd hmg hobj hints hlen hg => ?_
  have KX := hY w _ Y
  obtain ⟨fd, hb, hF⟩ := F w mg fa _ KX G.T.g hmg
  exact law_call KX G.T.g G.T.b G.T.builtins G.T.nolimit hg hobj hints (Nat.le_trans hlen hn2) hr hF hb (fun H hO hS => hsp w H a ns hlen hO hS) fun H e s' => hCX w H s₁ e s'
end L2



/-! SHORT WORDS over the layer: a def of the text, its body, what a loop and a test want. -/
namespace L2
open PySem PySem.Spec PyProof.Rows

/-! ### the text by places -/
def defArgs (s : Stmt) : Arguments := match s with
  | .FunctionDef _ a _ _ _ _ _ _ _ _ => a
  | _ => { posonlyargs := [], args := [], vararg := none, kwonlyargs := [], kw_defaults := [], kwarg := none, defaults := [] }
def defBody (s : Stmt) : List Stmt := match s with
  | .FunctionDef _ _ b _ _ _ _ _ _ _ => b
  | _ => []
def defScope (s : Stmt) : Scope := match s with
  | .FunctionDef _ _ _ _ _ _ sc _ _ _ => sc
  | _ => { kind := .function, names := [], isGenerator := false, isCoroutine := false }

/-! ### no exception leaves a def -/
abbrev CX0 : CXT := fun _ _ _ _ _ _ => False
abbrev E0 : XK := fun _ _ _ => False
theorem pass0 {X : Cx} : Passes CX0 X E0 := fun _ _ _ _ _ _ _ h => h.elim

/-! ### a def (or method) of the text as it stands behind the top -/
structure Fun (K : PySem.W.Frag) (x qual : Str) (st : Stmt) (f : Addr) (fd : FuncData) : Prop where
  ex : ∃ (oc : Value) (od : Option Addr) (kV doc pm : Value) (an : Option Addr) (cdv ct : Value) (osl : Array (Option Value)),
    fd = PySem.W.fnOf x qual (defArgs st) (defBody st) (defScope st) .none kV doc pm an cdv ct ∧ K.lookup f = some ⟨oc, od, .func fd, osl⟩ ∧ PySem.W.codeIn K cdv qual = true
  kp : PySem.W.keepIn K (.ref f) = true
section
variable {P : Program} {w : World} {K : PySem.W.Frag} {mg : Str → Option Value} {base : Heap}
/-- THE RULE for a def: its body as a term of rules, and the reading of that term -/
theorem Fun.ok {x qual : Str} {st : Stmt} {f : Addr} {fd : FuncData} {N ps : List Str} {k : Nat} {sp : Sp} (F : Fun K x qual st f fd) (S : FnScope N ps (defScope st)) (len : ∀ vs H Q E, sp vs H Q E → vs.length = ps.length)
    (hbody : ∀ (cdv : Value) (A : Around) (outer : List Env) (s : Shared) (H : Hp) (vs : List V) (Q : VK) (E : XK), Room k (A.deeper (envOfC qual (defScope st) s.heap.objs.size f cdv)) → sp vs H Q E →
      ∃ t, PSs (cxOf CX0 P w K mg base N qual (defScope st) f cdv A outer s H E).nox (defBody st) t ∧ t { nx := fun _ H' => Q .non H', rt := Q } (start N vs) H) : FnOk P w K mg base CX0 (k + 1) f fd ps sp := by
  obtain ⟨oc, od, kV, doc, pm, an, cdv, ct, osl, rfl, lk, hcd⟩ := F.ex
  refine fn_of lk hcd S len fun A outer s H vs Q E hr hsp => ?_
  obtain ⟨t, h, q⟩ := hbody cdv A outer s H vs Q E hr hsp
  exact ⟨t, h.nox, q⟩
/-- how its arguments bind (no defaults): h is «fun _ _ _ _ _ _ us hl => match us, hl with | [_, _], _ => rfl», one _ a parameter -/
theorem Fun.binds {x qual : Str} {st : Stmt} {f : Addr} {fd : FuncData} {ps : List Str} (F : Fun K x qual st f fd)
    (h : ∀ (kV doc pm : Value) (an : Option Addr) (cdv ct : Value) (us : List Value), us.length = ps.length → bindArgs (PySem.W.fnOf x qual (defArgs st) (defBody st) (defScope st) .none kV doc pm an cdv ct) ⟨us, []⟩ = pure (ps.zip us)) : Binds K fd ps [] := by
  obtain ⟨oc, od, kV, doc, pm, an, cdv, ct, osl, rfl, lk, hcd⟩ := F.ex
  exact .all (h kV doc pm an cdv ct)
theorem fun_mk {x qual : Str} {st : Stmt} {f : Addr} {oc : Value} {od an : Option Addr} {osl : Array (Option Value)} {kV doc pm cdv ct : Value} (l : K.lookup f = some ⟨oc, od, .func (PySem.W.fnOf x qual (defArgs st) (defBody st) (defScope st) .none kV doc pm an cdv ct), osl⟩)
    (c : PySem.W.codeIn K cdv qual = true) (k : PySem.W.keepIn K (.ref f) = true) : Fun K x qual st f (PySem.W.fnOf x qual (defArgs st) (defBody st) (defScope st) .none kV doc pm an cdv ct) := ⟨⟨oc, od, kV, doc, pm, an, cdv, ct, osl, rfl, l, c⟩, k⟩
end
theorem hu_of {A : Around} {k : Nat} (hr : Room k A) : A.units + 1 < cLine := Nat.lt_of_le_of_lt (Nat.add_le_add_left (by decide : 1 ≤ 64) _) hr.units
/-! ### expressions in short: the name that stands in the i-th slot -/
section
variable {X : Cx}
theorem pv (i : Nat) {x : Str} {pos : Pos} (hN : X.N[i]? = some x := by rfl) (hv : Vis X.env.scope x := by first | exact Or.inl rfl | exact Or.inr (Or.inl rfl) | exact Or.inr (Or.inr rfl)) (hd : (x == ("__debug__" : Str)) = false := by decide)
    (hcd : (x == ("__classdict__" : Str)) = false := by decide) : PE X (.Name x pos) (tVar i) := pe_var hN hv hd hcd
end

/-! ### tests -/
theorem iteF {A B : Prop} (h : B) : if false = true then A else B := by
  rw [if_neg Bool.false_ne_true]
  exact h
theorem iteT {A B : Prop} (h : A) : if true = true then A else B := by
  rw [if_pos rfl]
  exact h
theorem ite2 {c A B : Prop} [Decidable c] (h1 : c → A) (h2 : ¬ c → B) : if c then A else B := by
  by_cases h : c
  · rw [if_pos h]
    exact h1 h
  · rw [if_neg h]
    exact h2 h
/-! ### heaps -/
/-- all that was tracked is as it was -/
def Same (H H' : Hp) : Prop := ∀ b o, H b = some o → H' b = some o
theorem Same.refl (H : Hp) : Same H H := fun _ _ h => h
theorem Same.trans {H H1 H2 : Hp} (a : Same H H1) (b : Same H1 H2) : Same H H2 := fun c o h => b c o (a c o h)
theorem Same.free {H H' : Hp} (e : Same H H') {l : Addr} (h : H' l = Option.none) : H l = Option.none := by
  cases q : H l with
  | none => rfl
  | some o =>
    rw [e l o q] at h
    cases h
theorem Same.seq {K : PySem.W.Frag} {H H' : Hp} {a : Addr} {xs : List V} (e : Same H H') (h : SqL K H a xs) : SqL K H' a xs := by
  rcases h with (h | ⟨o, h⟩) | h
  · exact .inl (.inl (e _ _ h))
  · exact .inl (.inr ⟨o, e _ _ h⟩)
  · exact .inr h

end L2


namespace L2
open PySem PySem.Spec PyProof.Rows
section
variable {X : Cx}
end
/-! ### a dict's pairs: keys that differ -/
section
variable {κ : Type} [DecidableEq κ]
end
end L2


set_option Elab.async false
set_option linter.all false
set_option maxRecDepth 100000
/-! Comprehensions of one clause over the layer: a block of its own, with the cells that it takes from around it. -/
namespace L2
open PySem PySem.Spec PyProof.Rows

def clOf (env : Env) : List (Str × NameKind) → List (Str × Addr) → List (Str × Addr)
  | [], acc => acc
  | (n, k) :: r, acc => if (k == NameKind.free) = true then clOf env r ((n, (env.cells.lookup n).getD 0) :: acc) else clOf env r acc

theorem clOf_lookup {env : Env} {x : Str} : ∀ (l : List (Str × NameKind)) (acc : List (Str × Addr)),
    (clOf env l acc).lookup x = if (l.any fun p => (p.1 == x) && (p.2 == NameKind.free)) = true then some ((env.cells.lookup x).getD 0) else acc.lookup x
  | [], acc => by simp [clOf]
  | (n, k) :: r, acc => by
    unfold clOf
    by_cases hk : (k == NameKind.free) = true
    · rw [if_pos hk, clOf_lookup r]
      by_cases hr : (r.any fun p => (p.1 == x) && (p.2 == NameKind.free)) = true
      · rw [if_pos hr, if_pos]
        rw [List.any_cons, hr, Bool.or_true]
      · rw [if_neg hr]
        have hr' : (r.any fun p => (p.1 == x) && (p.2 == NameKind.free)) = false := (Bool.not_eq_true _).mp hr
        rw [List.any_cons, hr', Bool.or_false, hk, Bool.and_true, List.lookup_cons]
        by_cases hn : n = x
        · subst hn
          simp
        · have h1 : (n == x) = false := by simpa using hn
          have h2 : (x == n) = false := by simpa using fun z => hn (Eq.symm z)
          simp [h1, h2]
    · rw [if_neg hk, clOf_lookup r]
      have hk' : (k == NameKind.free) = false := by simpa using hk
      rw [List.any_cons, hk', Bool.and_false, Bool.false_or]

theorem closure_clOf {env : Env} {scope : Scope} (h : ∀ n k, (n, k) ∈ scope.names → (k == NameKind.free) = true → (env.cells.lookup n).isSome = true) : closureFor scope env = pure (clOf env scope.names []) := by
  have go : ∀ (l : List (Str × NameKind)) (acc : List (Str × Addr)), (∀ n k, (n, k) ∈ l → (k == NameKind.free) = true → (env.cells.lookup n).isSome = true) →
      (forIn l acc (fun (x : Str × NameKind) (r : List (Str × Addr)) => match x with
        | (name, kind) => if (kind == NameKind.free) = true then (do let a ← cellOf env name; pure (ForInStep.yield ((name, a) :: r))) else pure (ForInStep.yield r)) : Sem (List (Str × Addr))) = pure (clOf env l acc) := by
    intro l
    induction l with
    | nil => intro acc _; rfl
    | cons p r ih =>
      intro acc hp
      obtain ⟨n, k⟩ := p
      rw [List.forIn_cons]
      unfold clOf
      by_cases hk : (k == NameKind.free) = true
      · obtain ⟨c, hc⟩ := Option.isSome_iff_exists.mp (hp n k List.mem_cons_self hk)
        have hc1 : cellOf env n = pure c := by simp only [cellOf, hc]
        simp only [hk, if_true, hc1, hc, Option.getD_some]
        have := ih ((n, c) :: acc) (fun n' k' h' => hp n' k' (List.mem_cons_of_mem _ h'))
        simpa using this
      · simp only [hk, if_false]
        have := ih acc (fun n' k' h' => hp n' k' (List.mem_cons_of_mem _ h'))
        simpa using this
  have := go scope.names [] h
  simp only [closureFor]
  simpa using this

/-- what a comprehension's scope must be, beside the scope around it; cs: the names that it reads from around -/
def compOk (sc out : Scope) (xs : List Str) (cs : List Str) : Bool :=
  (sc.kind == .function) && (out.kind == .function) && sc.names.all (fun p => p.2 != NameKind.cell) && sc.names.all (fun p => p.2 != NameKind.local || sc.names.lookup p.1 == some .local) && xs.all (fun x => sc.names.lookup x == some .local)
    && sc.names.all (fun p => p.2 != NameKind.free || out.names.lookup p.1 == some .cell) && cs.all (fun c => sc.names.lookup c == some .free)

structure CompOk (sc out : Scope) (xs : List Str) (cs : List Str) : Prop where
  kind : sc.kind = .function
  okind : out.kind = .function
  cell : ∀ y ∈ sc.names, y.2 ≠ .cell
  names : ∀ y ∈ sc.names, y.2 = .local → sc.names.lookup y.1 = some .local
  x : ∀ x ∈ xs, sc.names.lookup x = some .local
  free : ∀ n k, (n, k) ∈ sc.names → k = .free → out.names.lookup n = some .cell
  cs : ∀ c ∈ cs, sc.names.lookup c = some .free
theorem compOk.mk {sc out : Scope} {xs : List Str} {cs : List Str} (h : compOk sc out xs cs = true) : CompOk sc out xs cs := by
  unfold compOk at h
  simp only [Bool.and_eq_true, List.all_eq_true, beq_iff_eq, bne_iff_ne, ne_eq, Bool.or_eq_true] at h
  obtain ⟨⟨⟨⟨⟨⟨h1, h2⟩, h3⟩, h4⟩, h5⟩, h6⟩, h7⟩ := h
  exact ⟨h1, h2, h3, fun y hy hl => (h4 y hy).resolve_left fun z => z hl, h5, fun n k hm hk => (h6 (n, k) hm).resolve_left fun z => z hk, h7⟩

theorem relabel_free {sc : Scope} {env : Env} {n : Str} (hk : env.scope.kind = .function) (hout : env.scope.names.lookup n = some .cell) (h : sc.names.lookup n = some .free) : (relabel sc env).names.lookup n = some .cell := by
  unfold relabel
  have go : ∀ l : List (Str × NameKind), l.lookup n = some .free →
      (l.map fun (p : Str × NameKind) => if (p.2 == NameKind.free && env.scope.kind == .function && env.kindOf p.1 == some .cell) = true then (p.1, NameKind.cell) else (p.1, p.2)).lookup n = some .cell := by
    intro l
    induction l with
    | nil => intro h; simp at h
    | cons p r ih =>
      intro h
      obtain ⟨m, k⟩ := p
      rw [List.lookup_cons] at h
      cases hm : n == m with
      | true =>
        rw [hm] at h
        cases h
        have e : n = m := by simpa using hm
        subst e
        have hko : env.kindOf n = some .cell := hout
        rw [List.map_cons]
        simp [hk, hko]
      | false =>
        rw [hm] at h
        rw [List.map_cons]
        by_cases hc : (k == NameKind.free && env.scope.kind == .function && env.kindOf m == some .cell) = true
        · rw [if_pos hc, List.lookup_cons, hm]
          exact ih h
        · rw [if_neg hc, List.lookup_cons, hm]
          exact ih h
  exact go sc.names h

/-- the context of a comprehension's block -/
def cxComp (X : Cx) (xs : List Str) (capt : List Nat) (scope : Scope) (C : Addr) (s : Shared) (H : Hp) (ex : List Addr) : Cx :=
  { X with N := xs ++ capt.map (fun j => X.N.getD j ""), s₀ := s, H₀ := H, env := compEnvC scope (clOf X.env scope.names []) C X.env, outer := X.stack, ex := ex, fn := fun _ => false, pn := [] }

def PTs (X : Cx) (ifs : List Expr) (t : TT) : Prop :=
  ∀ (pins : List (Addr × Obj)) (s : Shared) (σ : St) (H : Hp) (Q : Bool → Hp → Prop), Inv X pins σ H s → t σ H Q →
    wpAny (model X.prog X.w) X.A (forIn ifs true fun c r => if r = true then do let ok ← isTrue c X.env (eval c X.env); pure (ForInStep.yield ok) else pure (ForInStep.yield r)) (TP X pins σ Q) X.xe s
def tYes : TT := fun _ H Q => Q true H
theorem pts_nil {X : Cx} : PTs X [] tYes := fun pins s σ H Q I h => by
  show wpAny _ _ (pure true) _ _ _
  exact wpAny_pure ⟨H, I, h⟩
theorem pts_one {X : Cx} {c : Expr} {t : TT} (hc : PT X c t) : PTs X [c] t := fun pins s σ H Q I h => by
  rw [List.forIn_cons]
  simp only [if_true]
  refine wpAny_bind (wpAny_bind (thn (hc pins s σ H Q I h) fun b s1 q => ?_))
  refine wpAny_pure ?_
  show wpAny _ _ (forIn [] b _) _ _ _
  exact wpAny_pure q

/-- the loop of a comprehension, with the step between -/
theorem compLoop_own {prog : Program} {w : World} {A : Around} {R : Result → Shared → Prop} {s : Shared} {elt target iter : Expr} {ifs : List Expr} {scope : Scope} {pos : Pos} {it acc : Value} {env : Env} (I : Nat → Shared → Prop)
    (turn : ∀ n s, I n s → wpAny (model prog w) A (pyNext it) (fun r s₁ => match r with
      | none => R (.ok .next) s₁
      | some v => wpAny (model prog w) A (letOwnedTupleGo target it v) (fun _ s₁' => wpAny (model prog w) A (assign target env v) (fun _ s₂ =>
          wpAny (model prog w) A (forIn ifs true fun c r => if r = true then do let ok ← isTrue c env (eval c env); pure (ForInStep.yield ok) else pure (ForInStep.yield r)) (fun ok s₃ =>
            if ok = true then wpAny (model prog w) A (eval elt env) (fun x s₄ =>
              wpAny (model prog w) A (call (.builtin "list.append") [acc, x]) (fun _ s₅ => ∃ m, m < n ∧ I m s₅) (notedBy (model prog w) A env fun e s' => R (.error e) s') s₄) (notedBy (model prog w) A env fun e s' => R (.error e) s') s₃
            else ∃ m, m < n ∧ I m s₃) (notedBy (model prog w) A env fun e s' => R (.error e) s') s₂) (notedBy (model prog w) A env fun e s' => R (.error e) s') s₁') (notedBy (model prog w) A env fun e s' => R (.error e) s') s₁) (notedBy (model prog w) A env fun e s' => R (.error e) s') s)
    (n : Nat) (h : I n s) : codeAny (model prog w) A (.compLoop (.ListComp elt [⟨target, iter, ifs, 0⟩] scope pos) 0 it acc env) R s := by
  refine codeAny_loop rfl I (fun n s hI => ?_) n h
  show wpAny _ A ((compTurn (.ListComp elt [⟨target, iter, ifs, 0⟩] scope pos) 0 it acc env).onRaise (fun x => do noteFrame x env; theTreesLotGoes x)) _ _ s
  refine wpAny_noted ?_
  rw [compTurn_list]
  refine wpAny_bind (wpAny_standAt (wpAny_bind (wpAny_mono (turn n s hI) (fun r s₁ h₁ => ?_) fun _ _ h' => h')))
  cases r with
  | none => exact wpAny_pure h₁
  | some v =>
    refine wpAny_bind (wpAny_mono h₁ (fun _ s₁' h₁' => ?_) fun _ _ h' => h')
    refine wpAny_bind (wpAny_mono h₁' (fun _ s₂ h₂ => wpAny_bind (wpAny_mono h₂ (fun ok s₃ h₃ => ?_) fun _ _ h' => h')) fun _ _ h' => h')
    cases ok with
    | false => exact wpAny_pure ⟨rfl, h₃⟩
    | true =>
      exact wpAny_bind (wpAny_bind (wpAny_mono h₃ (fun x s₄ h₄ => wpAny_bind (wpAny_mono h₄ (fun _ s₅ h₅ => wpAny_pure (wpAny_pure ⟨rfl, h₅⟩)) fun _ _ h' => h')) fun _ _ h' => h'))

section
variable {X : Cx} {pins : List (Addr × Obj)} {σ : St} {H H2 : Hp} {s s2 : Shared} {xs : List Str} {capt : List Nat} {scope : Scope} {fp : List Addr}

abbrev emptyL : Obj := { cls := .type "list", dict := none, data := .seq ([] : List Value).toArray }
theorem Inv.stk_lt (I : Inv X pins σ H s) {b : Addr} (hb : s.heap.objs.size ≤ b) : b ∉ frs X.stack := fun z => by
  rcases List.mem_cons.mp (I.stkSub b z) with e | e
  · exact absurd (Nat.lt_of_lt_of_le I.lt hb) (by rw [e]; exact Nat.lt_irrefl _)
  · exact I.nofs hb e

/-- the block's context stands -/
theorem comp_cxok (I : Inv X pins σ H2 s2) (ok : CompOk scope X.env.scope xs (capt.map fun j => X.N.getD j "")) (hf : ∀ b ∈ fp, FpOk X pins H2 b) (hfo : ∀ b ∈ fp, ∃ o, s2.heap.get? b = some o) {HH : Heap} (eH : HH = s2.heap.push emptyL) :
    (cxComp X xs capt scope HH.objs.size { s2 with heap := HH } H2 (s2.heap.objs.size :: fp)).Ok := by
  have hsz : HH.objs.size = s2.heap.objs.size + 1 := by rw [eH, Heap.size_push]
  have look : ∀ y c, (clOf X.env scope.names []).lookup y = some c → X.env.cells.lookup y = some c := fun y c e => by
    rw [clOf_lookup] at e
    split at e
    · rename_i ha
      obtain ⟨p, hp, hq⟩ := List.any_eq_true.mp ha
      simp only [Bool.and_eq_true, beq_iff_eq] at hq
      obtain ⟨q1, q2⟩ := hq
      subst q1
      obtain ⟨c', hc'⟩ := I.ok.has p.1 (.inl (ok.free p.1 p.2 hp q2))
      rw [hc'] at e ⊢
      exact e
    · cases e
  have keep : ∀ b o, s2.heap.get? b = some o → HH.get? b = some o := fun b o e => by rw [eH]; exact Heap.get?_push_of_some _ e
  refine ⟨I.ok.mod, ok.kind, I.ok.glob, I.ok.blt, Nat.le_refl _, fun y z c h1 h2 => I.ok.inj y z c (look y c h1) (look z c h2), fun y hy => ?_, (fun y c h _ => nomatch h), I.ok.hd, I.ok.frames, .inl rfl, fun b hb => ?_, fun b o e => ?_, ?_, fun b o e hb => ?_, fun b hb => ?_, ?_, fun b hb => I.stkFree b hb⟩
  · -- each cell's name has its cell
    have hy' : (relabel scope X.env).names.lookup y = some .cell ∨ (relabel scope X.env).names.lookup y = some .free := hy
    have inn : ∀ (l : List (Str × NameKind)) (k : NameKind), (∀ p ∈ l, p.2 ≠ .cell) → (k = .cell ∨ k = .free) →
        (l.map fun (p : Str × NameKind) => if (p.2 == NameKind.free && X.env.scope.kind == .function && X.env.kindOf p.1 == some .cell) = true then (p.1, NameKind.cell) else (p.1, p.2)).lookup y = some k → ∃ p ∈ l, p.1 = y ∧ p.2 = .free := by
      intro l k hnc hkk
      induction l with
      | nil => intro h; simp at h
      | cons p r ih =>
        intro h
        obtain ⟨m, k'⟩ := p
        rw [List.map_cons] at h
        by_cases hc : (k' == NameKind.free && X.env.scope.kind == .function && X.env.kindOf m == some .cell) = true
        · rw [if_pos hc, List.lookup_cons] at h
          have hfree : k' = .free := by
            simp only [Bool.and_eq_true, beq_iff_eq] at hc
            exact hc.1.1
          cases hm : y == m with
          | true => exact ⟨(m, k'), List.mem_cons_self, by simpa using Eq.symm (by simpa using hm), hfree⟩
          | false =>
            rw [hm] at h
            obtain ⟨p, hp, q⟩ := ih (fun p hp => hnc p (List.mem_cons_of_mem _ hp)) h
            exact ⟨p, List.mem_cons_of_mem _ hp, q⟩
        · rw [if_neg hc, List.lookup_cons] at h
          cases hm : y == m with
          | true =>
            rw [hm] at h
            cases h
            rcases hkk with z | z
            · exact absurd z (hnc (m, k') List.mem_cons_self)
            · exact ⟨(m, k'), List.mem_cons_self, by simpa using Eq.symm (by simpa using hm), z⟩
          | false =>
            rw [hm] at h
            obtain ⟨p, hp, q⟩ := ih (fun p hp => hnc p (List.mem_cons_of_mem _ hp)) h
            exact ⟨p, List.mem_cons_of_mem _ hp, q⟩
    have hex : ∃ p ∈ scope.names, p.1 = y ∧ p.2 = .free := by
      rcases hy' with h | h
      · exact inn scope.names .cell ok.cell (.inl rfl) h
      · exact inn scope.names .free ok.cell (.inr rfl) h
    obtain ⟨p, hp, q1, q2⟩ := hex
    refine ⟨_, (clOf_lookup (env := X.env) scope.names []).trans (if_pos (List.any_eq_true.mpr ⟨p, hp, ?_⟩))⟩
    simp [q1, q2]
  · -- the records that turn are not the frame's
    rcases List.mem_cons.mp hb with z | z
    · subst z
      refine ⟨Nat.ne_of_lt (show s2.heap.objs.size < HH.objs.size by omega), fun y c e q => ?_⟩
      obtain ⟨v, hv⟩ := I.cell y c (look y c e)
      have := hv.lt
      rw [q] at this
      exact absurd this (Nat.lt_irrefl _)
    · obtain ⟨o, ho⟩ := hfo b z
      exact ⟨Nat.ne_of_lt (Nat.lt_of_lt_of_le (Heap.lt_size ho) (show s2.heap.objs.size ≤ HH.objs.size by omega)), fun y c e => (hf b z).2.2.2.2.1 y c (look y c e)⟩
  · obtain ⟨h1, h2⟩ := I.bs b o e
    exact ⟨keep b o h1, h2⟩
  · show X.base.objs.size ≤ HH.objs.size
    have h1 := I.ok.bsz
    have h2 := I.sz
    omega
  · -- the base's objects do not turn
    have h0 := (I.bs b o e).1
    rcases List.mem_cons.mp hb with z | z
    · subst z
      exact absurd (Heap.lt_size h0) (Nat.lt_irrefl _)
    · rcases (hf b z).2.2.2.1 with q | q
      · exact I.ok.noex b o e q
      · have h1 := (I.ok.bs b o e).1
        exact absurd (Nat.lt_of_lt_of_le (Heap.lt_size h1) q) (Nat.lt_irrefl _)
  · show b ∉ frs X.stack
    rcases List.mem_cons.mp hb with z | z
    · subst z
      exact I.stk_lt (Nat.le_refl _)
    · intro q
      rcases List.mem_cons.mp (I.stkSub b q) with e | e
      · exact (hf b z).2.1 e
      · exact (hf b z).2.2.1 e
  · show HH.FunFrames X.base X.stack
    exact Heap.FunFrames.of_keeps (fun b o e _ => ⟨o, keep b o e, rfl⟩) I.stack

/-- the block's first state -/
theorem comp_inv (I : Inv X pins σ H2 s2) (ok : CompOk scope X.env.scope xs (capt.map fun j => X.N.getD j "")) (hcap : ∀ j ∈ capt, j < X.N.length) (hf : ∀ b ∈ fp, FpOk X pins H2 b) (hfo : ∀ b ∈ fp, ∃ o, s2.heap.get? b = some o)
    {HH h1 : Heap} {t : Nat} {m : Str → Option Value} {oc : Obj} (eH : HH = s2.heap.push emptyL) (hns : h1.Ns HH.objs.size m) (hsb : Heap.SameBut HH.objs.size (HH.push oc) h1) :
    Inv (cxComp X xs capt scope HH.objs.size { s2 with heap := HH } H2 (s2.heap.objs.size :: fp)) [(s2.heap.objs.size, emptyL)] (List.replicate xs.length none ++ capt.map fun j => (σ[j]?).join) H2 { s2 with heap := h1, toks := t } := by
  have hsz : HH.objs.size = s2.heap.objs.size + 1 := by rw [eH, Heap.size_push]
  have look : ∀ y c, (clOf X.env scope.names []).lookup y = some c → X.env.cells.lookup y = some c := fun y c e => by
    rw [clOf_lookup] at e
    split at e
    · rename_i ha
      obtain ⟨p, hp, hq⟩ := List.any_eq_true.mp ha
      simp only [Bool.and_eq_true, beq_iff_eq] at hq
      obtain ⟨q1, q2⟩ := hq
      subst q1
      obtain ⟨c', hc'⟩ := I.ok.has p.1 (.inl (ok.free p.1 p.2 hp q2))
      rw [hc'] at e ⊢
      exact e
    · cases e
  have keep0 : ∀ b o, HH.get? b = some o → h1.get? b = some o := fun b o e => hsb.extBut b o (Nat.ne_of_lt (Heap.lt_size e)) (Heap.get?_push_of_some _ e)
  have keep : ∀ b o, s2.heap.get? b = some o → h1.get? b = some o := fun b o e => keep0 b o (by rw [eH]; exact Heap.get?_push_of_some _ e)
  have hD : h1.get? s2.heap.objs.size = some emptyL := keep0 _ _ (by rw [eH]; exact Heap.get?_push_size _ rfl)
  refine ⟨comp_cxok I ok hf hfo eH, rfl, I.bare, Un.kept keep0, ⟨m, hns, fun i y v h1' h2 h3 => ?_⟩, fun y c e => ?_, I.hok.fresh (show s2.heap.objs.size ≤ HH.objs.size by omega), fun y c e => I.freeC y c (look y c e), fun p hp => ?_, I.hok.kept keep, ?_⟩
  · by_cases hi : i < xs.length
    · have h2' : (List.replicate xs.length (none : Option V))[i]? = some (some v) := by
        rw [← List.getElem?_append_left (l₂ := capt.map fun j => (σ[j]?).join) (by simpa using hi)]
        exact h2
      rw [List.getElem?_replicate_of_lt hi] at h2'
      cases h2'
    · have h1'' : (capt.map fun j => X.N.getD j "")[i - xs.length]? = some y := by
        rw [← List.getElem?_append_right (l₁ := xs) (by omega)]
        exact h1'
      have h2' : (capt.map fun j => (σ[j]?).join)[i - xs.length]? = some (some v) := by
        have q := List.getElem?_append_right (l₁ := List.replicate xs.length (none : Option V)) (l₂ := capt.map fun j => (σ[j]?).join) (i := i) (by simpa using hi)
        rw [List.length_replicate] at q
        rw [← q]
        exact h2
      rw [List.getElem?_map] at h1'' h2'
      cases hj : capt[i - xs.length]? with
      | none => rw [hj] at h1''; cases h1''
      | some j =>
        rw [hj] at h1'' h2'
        have ey : X.N.getD j "" = y := by simpa using h1''
        have ev : (σ[j]?).join = some v := by simpa using h2'
        have hjm : j ∈ capt := List.mem_of_getElem? hj
        have hjl := hcap j hjm
        have hN : X.N[j]? = some y := by
          rw [List.getD_eq_getElem?_getD, List.getElem?_eq_getElem hjl] at ey
          rw [List.getElem?_eq_getElem hjl]
          simpa using ey
        have hσ : σ[j]? = some (some v) := by
          cases e : σ[j]? with
          | none => rw [e] at ev; cases ev
          | some o => rw [e] at ev; have ev' : o = some v := ev; rw [ev']
        have hfr : scope.names.lookup y = some .free := ok.cs y (List.mem_map.mpr ⟨j, hjm, ey⟩)
        have hout : X.env.scope.names.lookup y = some .cell := ok.free y .free (PySem.mem_of_lookup hfr) rfl
        obtain ⟨mX, _, hl⟩ := I.loc
        obtain ⟨u, ru, lk⟩ := hl j y v hN hσ (.inr (.inl hout))
        refine ⟨u, ru, ?_⟩
        have hko : X.env.kindOf y = some .cell := hout
        rcases lk with ⟨z, _⟩ | ⟨_, c, hc, hcell⟩
        · rw [hko] at z; cases z
        · refine .inr ⟨.inl (relabel_free ok.okind hout hfr), c, ?_, hcell.keeps keep⟩
          show (clOf X.env scope.names []).lookup y = some c
          rw [clOf_lookup, if_pos (List.any_eq_true.mpr ⟨(y, .free), PySem.mem_of_lookup hfr, by simp⟩), hc]
          rfl
  · obtain ⟨v, hv⟩ := I.cell y c (look y c e)
    exact ⟨v, hv.keeps keep⟩
  · have hp' : p = (s2.heap.objs.size, emptyL) := by simpa [cxComp] using hp
    subst hp'
    refine ⟨hD, I.hok.fresh (Nat.le_refl _), Nat.ne_of_lt (show s2.heap.objs.size < HH.objs.size by omega), I.stk_lt (Nat.le_refl _), fun v z => by cases z⟩
  · show _ = (xs ++ capt.map fun j => X.N.getD j "").length
    simp

/-- W: a comprehension's invariant, by the turn, a measure, the items so far; N: what a turn is to reach; n slots of the target's, c what is taken from around -/
def CompG (J : It) (n : Nat) (c : St) (g : TG) (tt : TT) (te : TE) (H1 : Hp) (Fin : List V → Hp → Prop) : Prop :=
  ∃ W : Nat → Nat → List V → Hp → Prop, (∃ m, W 0 m [] H1) ∧ ∀ i m ys H, W i m ys H → (J.stop i H ∧ Fin ys H) ∨
    (J.go i H ∧ ys.length < sizeLine ∧ ∃ N : List V → Hp → Prop, (∀ ys' H', N ys' H' → ∃ m', m' < m ∧ W (i + 1) m' ys' H') ∧
      ∀ x H', J.yld i H x H' → ∀ os : St, os.length = n → g x (os ++ c) H' fun σ1 H1 => tt σ1 H1 fun b H2 => if b = true then te σ1 H2 fun y H3 => N (ys ++ [y]) H3 else N ys H2)
def tCompG (n : Nat) (g : TG) (capt : List Nat) (wi : TI) (tt : TT) (te : TE) : TE := fun σ H Q => wi σ H fun J H1 =>
  CompG J n (capt.map fun j => (σ[j]?).join) g tt te H1 fun ys H => ∀ l, H l = none → Q (.ref l) (upd H l (.lst ys))
/-- the target writes its own slots alone -/
def Shp (n : Nat) (g : TG) : Prop := ∀ v (os c : St) H Q, os.length = n → g v (os ++ c) H Q → g v (os ++ c) H fun σ' H' => (∃ os' : St, os'.length = n ∧ σ' = os' ++ c) ∧ Q σ' H'
/-- the same, the target a name -/
def CompW (J : It) (S : V → St) (tt : TT) (te : TE) (H1 : Hp) (Fin : List V → Hp → Prop) : Prop :=
  ∃ W : Nat → Nat → List V → Hp → Prop, (∃ m, W 0 m [] H1) ∧ ∀ i m ys H, W i m ys H → (J.stop i H ∧ Fin ys H) ∨
    (J.go i H ∧ ys.length < sizeLine ∧ ∃ N : List V → Hp → Prop, (∀ ys' H', N ys' H' → ∃ m', m' < m ∧ W (i + 1) m' ys' H') ∧
      ∀ x H', J.yld i H x H' → tt (S x) H' fun b H2 => if b = true then te (S x) H2 fun y H3 => N (ys ++ [y]) H3 else N ys H2)
def tComp (capt : List Nat) (wi : TI) (tt : TT) (te : TE) : TE := fun σ H Q => wi σ H fun J H1 =>
  CompW J (fun x => some x :: capt.map fun j => (σ[j]?).join) tt te H1 fun ys H => ∀ l, H l = none → Q (.ref l) (upd H l (.lst ys))
theorem CompW.g {J : It} {c : St} {tt : TT} {te : TE} {H : Hp} {Fin : List V → Hp → Prop} (h : CompW J (fun x => some x :: c) tt te H Fin) : CompG J 1 c (gName 0) tt te H Fin := by
  obtain ⟨W, w0, st⟩ := h
  refine ⟨W, w0, fun i m ys H w => ?_⟩
  rcases st i m ys H w with q | ⟨go, hl, N, hN, step⟩
  · exact .inl q
  · refine .inr ⟨go, hl, N, hN, fun x H' y os hos => ?_⟩
    obtain ⟨o, rfl⟩ := List.length_eq_one_iff.mp hos
    exact step x H' y
theorem shp_name : Shp 1 (gName 0) := fun v os c H Q hos h => by
  obtain ⟨o, rfl⟩ := List.length_eq_one_iff.mp hos
  exact ⟨⟨[some v], rfl, rfl⟩, h⟩
/-- an untracked object becomes tracked -/
theorem HOk.track {P : Program} {w : World} {H : Hp} {h : Heap} {a : Addr} {o : HO} (k : HOk P w H h) (n : H a = none) (new : ObjOk P w (upd H a o) h a o) : HOk P w (upd H a o) h := fun b u e => by
  by_cases hb : b = a
  · subst hb; rw [upd_same] at e; cases e; exact new
  · rw [upd_ne hb] at e
    exact (k b u e).stay (fun _ _ _ q => q) (fun c q => by rw [upd_ne (ne_of_none q n)]; exact q) fun c xs q => by rw [upd_ne (ne_of_none q n)]; exact q

theorem comp_block {elt iter tg : Expr} {g : TG} {ifs : List Expr} {pos : Pos} {tt : TT} {te : TE} {it : Addr} {tn : Nat → Heap → Prop} {J : It} {RR : Value → Addr → Result → Shared → Prop}
    (hx0 : ∀ e s, ¬ X.xe e s) (hc : X.calm = true) (ok : CompOk scope X.env.scope xs (capt.map fun j => X.N.getD j "")) (hcap : ∀ j ∈ capt, j < X.N.length) (hG : ∀ C s H ex, PG (cxComp X xs capt scope C s H ex) tg g) (hgs : Shp xs.length g)
    (hT : ∀ C s H ex, PTs (cxComp X xs capt scope C s H ex) ifs tt) (hE : ∀ C s H ex, PE (cxComp X xs capt scope C s H ex) elt te)
    (I2 : Inv X pins σ H2 s2) (T : Turn X.prog X.w X.K tg J fp it tn) (st2 : tn 0 s2.heap) (f2 : ∀ b ∈ fp, FpOk X pins H2 b)
    (Fin : List V → Hp → Prop) (hW : CompG J xs.length (capt.map fun j => (σ[j]?).join) g tt te H2 Fin)
    (hRR : ∀ D C s' ys H' oc, H' D = none → Fin ys H' → Inv X pins σ (upd H' D (.lst ys)) s' → s'.heap.get? C = some oc → (∃ m, s'.heap.Ns C m) → C ≠ D → H' C = none → C ≠ X.env.locals → C ∉ frs X.stack → X.s₀.heap.objs.size ≤ C → (∀ y c, X.env.cells.lookup y = some c → c ≠ C) → (∀ p ∈ X.pn ++ pins, p.1 ≠ C) →
      (∀ v, oc.data ≠ .cell v) → RR (.ref D) C (.ok .next) s') :
    wpAny (model X.prog X.w) X.A (newList []) (fun acc s₃ => wpAny (model X.prog X.w) X.A (newFunctionEnv scope X.env.globals (clOf X.env scope.names []) [] X.env.qual none .none (some X.env)) (fun cenv s₄ =>
      codeAny (model X.prog X.w) X.A (.compStart (.ListComp elt [⟨tg, iter, ifs, 0⟩] scope pos) 0 (.ref it) acc { cenv with scope := relabel scope X.env }) (RR acc cenv.locals) s₄) X.xe s₃) X.xe s2 := by
  refine wpAny_newObj_type (wpAny_newFunctionEnv ok.cell (by intro y hy; simp at hy) (fun h1 hns hsb => ?_) ok.kind)
  dsimp only at hns hsb ⊢
  generalize eH : s2.heap.push { cls := .type "list", dict := none, data := .seq ([] : List Value).toArray } = HH at hns hsb ⊢
  have eH' : HH = s2.heap.push emptyL := eH.symm
  have hsz : HH.objs.size = s2.heap.objs.size + 1 := by rw [eH', Heap.size_push]
  have hfo : ∀ b ∈ fp, ∃ o, s2.heap.get? b = some o := fun b hb => let ⟨o, ho, _⟩ := T.obj 0 _ st2 b hb; ⟨o, ho⟩
  have flt : ∀ b ∈ fp, b < s2.heap.objs.size := fun b hb => let ⟨o, ho⟩ := hfo b hb; Heap.lt_size ho
  have keep1 : ∀ b o, s2.heap.get? b = some o → h1.get? b = some o := fun b o e =>
    hsb.extBut b o (Nat.ne_of_lt (Nat.lt_of_lt_of_le (Heap.lt_size e) (show s2.heap.objs.size ≤ HH.objs.size by omega))) (Heap.get?_push_of_some _ (by rw [eH']; exact Heap.get?_push_of_some _ e))
  have I4 := comp_inv (t := s2.toks + ([] : List (Str × Value)).length) I2 ok hcap f2 hfo eH' hns hsb
  have st4 : tn 0 h1 := T.keep 0 _ _ st2 fun b _ o e => keep1 b o e
  obtain ⟨W, ⟨m0, w0⟩, turn⟩ := hW
  generalize hX : cxComp X xs capt scope HH.objs.size { s2 with heap := HH } H2 (s2.heap.objs.size :: fp) = Y at I4
  have eProg : Y.prog = X.prog := by rw [← hX]; rfl
  have eW : Y.w = X.w := by rw [← hX]; rfl
  have eK : Y.K = X.K := by rw [← hX]; rfl
  have eA : Y.A = X.A := by rw [← hX]; rfl
  have eEnv : Y.env = compEnvC scope (clOf X.env scope.names []) HH.objs.size X.env := by rw [← hX]; rfl
  have eXe : Y.xe = X.xe := by rw [← hX]; rfl
  have eCalm : Y.calm = true := by rw [← hX]; exact hc
  have ePn : Y.pn = [] := by rw [← hX]; rfl
  have eEx : Y.ex = s2.heap.objs.size :: fp := by rw [← hX]; rfl
  have eFs : Y.fs = frs X.stack := by rw [← hX]; rfl
  have hT' : PTs Y ifs tt := by rw [← hX]; exact hT _ _ _ _
  have hE' : PE Y elt te := by rw [← hX]; exact hE _ _ _ _
  have hG' : PG Y tg g := by rw [← hX]; exact hG _ _ _ _
  have eH0 : Y.H₀ = H2 := by rw [← hX]; rfl
  have eS0 : Y.s₀ = { s2 with heap := HH } := by rw [← hX]; rfl
  have eL : Y.env.locals = HH.objs.size := by rw [eEnv]; rfl
  have ecl : Y.env.cells = clOf X.env scope.names [] := by rw [eEnv]; rfl
  have look : ∀ y c, (clOf X.env scope.names []).lookup y = some c → X.env.cells.lookup y = some c := fun y c e => by
    rw [clOf_lookup] at e
    split at e
    · rename_i ha
      obtain ⟨p, hp, hq⟩ := List.any_eq_true.mp ha
      simp only [Bool.and_eq_true, beq_iff_eq] at hq
      obtain ⟨q1, q2⟩ := hq
      subst q1
      obtain ⟨c', hc'⟩ := I2.ok.has p.1 (.inl (ok.free p.1 p.2 hp q2))
      rw [hc'] at e ⊢
      exact e
    · cases e
  have fpOk : ∀ {pins' : List (Addr × Obj)} {H' : Hp}, (∀ b ∈ fp, H' b = none) → (∀ p ∈ pins', p.1 ∉ fp) → ∀ b ∈ fp, FpOk Y pins' H' b := fun {pins' H'} hn hp b hb => by
    have hlt := flt b hb
    refine ⟨hn b hb, by rw [eL]; exact Nat.ne_of_lt (Nat.lt_of_lt_of_le hlt (show s2.heap.objs.size ≤ HH.objs.size by omega)), ?_, .inl (by rw [eEx]; exact List.mem_cons_of_mem _ hb), fun y c e => (f2 b hb).2.2.2.2.1 y c (look y c (by rw [← ecl]; exact e)), fun p hpp z => ?_⟩
    · rw [eFs]
      intro q
      rcases List.mem_cons.mp (I2.stkSub b q) with e | e
      · exact (f2 b hb).2.1 e
      · exact (f2 b hb).2.2.1 e
    · rw [ePn, List.nil_append] at hpp
      exact hp p hpp (by rw [z]; exact hb)
  have Dnf : s2.heap.objs.size ∉ fp := fun z => absurd (flt _ z) (Nat.lt_irrefl _)
  have loop : codeAny (model X.prog X.w) X.A (.compLoop (.ListComp elt [⟨tg, iter, ifs, 0⟩] scope pos) 0 (.ref it) (.ref s2.heap.objs.size) Y.env) (RR (.ref s2.heap.objs.size) HH.objs.size) { s2 with heap := h1, toks := s2.toks + ([] : List (Str × Value)).length } := by
    refine compLoop_own (fun n s' => ∃ i ys its k os H', Inv Y [(s2.heap.objs.size, { cls := .type "list", data := .seq its.toArray k })] (os ++ capt.map fun j => (σ[j]?).join) H' s' ∧ os.length = xs.length ∧ Vals ys its ∧ ys.length ≤ sizeLine ∧ tn i s'.heap ∧ (∀ b ∈ fp, H' b = none) ∧ W i n ys H') ?_ m0
      ⟨0, [], [], 0, _, H2, I4, List.length_replicate, .nil, Nat.zero_le _, st4, fun b hb => (f2 b hb).1, w0⟩
    rintro n s3 ⟨i, ys, its, k, os, H3, I3, hos, rv, hys, st3, fr3, w3⟩
    have noErr : ∀ {e : Value} {s : Shared}, X.xe e s → notedBy (model X.prog X.w) X.A Y.env (fun e s' => RR (.ref s2.heap.objs.size) HH.objs.size (.error e) s') e s := fun {e s} z => (hx0 e s z).elim
    have pinD := I3.pin (s2.heap.objs.size, { cls := .type "list", data := .seq its.toArray k }) (by simp)
    have fp3 := fpOk (pins' := [(s2.heap.objs.size, { cls := .type "list", data := .seq its.toArray k })]) fr3 (by simpa using Dnf)
    rcases turn i n ys H3 w3 with ⟨stop, fin⟩ | ⟨go, hlt, N, hN, step⟩
    · -- it stops
      have d := T.done Y eProg eW eK eCalm i _ s3 _ H3 X.xe I3 fp3 st3 stop
      rw [eA] at d
      refine wpAny_mono d (fun r s4 ⟨hr, I4'⟩ => ?_) fun e s z => noErr z
      subst hr
      show RR (.ref s2.heap.objs.size) HH.objs.size (.ok .next) s4
      have pinD4 := I4'.pin (s2.heap.objs.size, { cls := .type "list", data := .seq its.toArray k }) (by simp)
      obtain ⟨mC, nsC, _⟩ := I4'.loc
      rw [eL] at nsC
      obtain ⟨oC, esC, epC, hoC, hdC, _⟩ := id nsC
      have base4 := I4'.base
      rw [eFs, eEx, eH0, eS0] at base4
      have hCn : H3 HH.objs.size = none := by rw [← eL]; exact I4'.free
      refine hRR s2.heap.objs.size HH.objs.size s4 ys H3 oC pinD4.2.1 fin ?_ hoC ⟨mC, nsC⟩ (Nat.ne_of_gt (show s2.heap.objs.size < HH.objs.size by omega)) hCn (Nat.ne_of_gt (Nat.lt_of_lt_of_le I2.lt (show s2.heap.objs.size ≤ HH.objs.size by omega))) (I2.stk_lt (by omega)) (by have := I2.sz; omega) (fun y c e z => ?_) (fun p hp z => ?_) (fun v z => by rw [hdC] at z; cases z)
      · have hok4 := I4'.hok
        rw [eProg, eW] at hok4
        have hbl : ∀ b ob, s2.heap.get? b = some ob → b ∉ fp → HH.get? b = some ob ∧ b ∉ s2.heap.objs.size :: fp := fun b ob e hm =>
          ⟨by rw [eH']; exact Heap.get?_push_of_some _ e, fun z => (List.mem_cons.mp z).elim (fun q => absurd (Heap.lt_size e) (by rw [q]; exact Nat.lt_irrefl _)) hm⟩
        refine I2.call' (ch := fp) (by rw [I4'.os, eS0]) ⟨fun b ob e nn hb hx => ?_, fun b ob e nn hb hx => ?_, fun b ob e nn hx => ?_, fun b ob e hx => ?_, fun b xs e => ?_, fun b ob u e => ?_, fun b ps e => ?_⟩ (HOk.track hok4 pinD4.2.1 ⟨hys, its, k, rv, pinD4.1⟩) I4'.bare fun b hb => ⟨(f2 b hb).2.2.2.1, (f2 b hb).2.1, (f2 b hb).2.2.2.2.1, (f2 b hb).2.2.2.2.2⟩
        · obtain ⟨h1', h2'⟩ := hbl b ob e hx
          exact base4.keep b ob h1' nn hb h2'
        · obtain ⟨h1', h2'⟩ := hbl b ob e hx
          exact base4.slot b ob h1' nn hb h2'
        · obtain ⟨h1', h2'⟩ := hbl b ob e hx
          rw [upd_ne (Nat.ne_of_lt (Heap.lt_size e))]
          exact base4.free b ob h1' nn h2'
        · obtain ⟨h1', h2'⟩ := hbl b ob e hx
          exact base4.there b ob h1' h2'
        · have q := base4.tups b xs e
          rw [upd_ne (ne_of_none q pinD4.2.1)]
          exact q
        · have q := base4.frzs b ob u e
          rw [upd_ne (ne_of_none q pinD4.2.1)]
          exact q
        · obtain ⟨more, q⟩ := base4.tbls b ps e
          exact ⟨more, by rw [upd_ne (ne_of_none q pinD4.2.1)]; exact q⟩
      · obtain ⟨v, hv⟩ := I2.cell y c e
        have := hv.lt
        rw [z] at this
        exact absurd this (Nat.not_lt.mpr (show s2.heap.objs.size ≤ HH.objs.size by omega))
      · have := Heap.lt_size (I2.pin p hp).1
        rw [z] at this
        exact absurd this (Nat.not_lt.mpr (show s2.heap.objs.size ≤ HH.objs.size by omega))
    · -- one turn
      have d := T.item Y eProg eW eK eCalm i _ s3 _ H3 X.xe I3 fp3 st3 go
      rw [eA] at d
      refine wpAny_mono d (fun r s4 ⟨u, hr, h4⟩ => ?_) fun e s z => noErr z
      subst hr
      refine wpAny_mono h4 (fun _ s5 ⟨v, H5, I5, r5, y5, st5, fr5⟩ => ?_) fun e s z => noErr z
      have fp5 := fpOk (pins' := [(s2.heap.objs.size, { cls := .type "list", data := .seq its.toArray k })]) fr5 (by simpa using Dnf)
      have I5' := I5.pinned fp5 (T.obj _ _ st5)
      have pg' := hG' _ s5 _ H5 v u _ I5' r5 (hgs v os _ H5 _ hos (step v H5 y5 os hos))
      rw [eProg, eW, eA, eXe] at pg'
      refine wpAny_mono pg' (fun _ s6 ⟨σ6, H6, I6, ⟨os6, hos6, e6⟩, q6⟩ => ?_) fun e s z => noErr z
      subst e6
      have t6 := hT' _ s6 _ H6 _ I6 q6
      rw [eProg, eW, eA, eXe] at t6
      refine wpAny_mono t6 (fun b s7 ⟨H7, I7, q7⟩ => ?_) fun e s z => noErr z
      have ntn : ∀ {σ' : St} {H' : Hp} {s' : Shared}, Inv Y ([(s2.heap.objs.size, { cls := .type "list", data := .seq its.toArray k })] ++ pinsAt fp s5.heap) σ' H' s' → tn (i + 1) s'.heap ∧ ∀ b ∈ fp, H' b = none := fun {σ' H' s'} J' => by
        refine ⟨T.keep _ _ _ st5 fun b hb o e => (J'.pin (b, o) (List.mem_append_right _ (List.mem_append_right _ (mem_pinsAt hb e)))).1, fun b hb => ?_⟩
        obtain ⟨o, e, _⟩ := T.obj _ _ st5 b hb
        exact (J'.pin (b, o) (List.mem_append_right _ (List.mem_append_right _ (mem_pinsAt hb e)))).2.1
      cases b with
      | false =>
        rw [if_neg Bool.false_ne_true] at q7
        obtain ⟨m', hm, w7⟩ := hN _ _ q7
        rw [if_neg Bool.false_ne_true]
        exact ⟨m', hm, i + 1, ys, its, k, os6, H7, I7.unpinned, hos6, rv, hys, (ntn I7).1, (ntn I7).2, w7⟩
      | true =>
        rw [if_pos rfl] at q7
        rw [if_pos rfl]
        have e7 := hE' _ s7 _ H7 _ I7 q7
        rw [eProg, eW, eA, eXe] at e7
        refine wpAny_mono e7 (fun uy s8 ⟨y, H8, I8, r8, n8⟩ => ?_) fun e s z => noErr z
        obtain ⟨m', hm, w8⟩ := hN _ _ n8
        have pin8 := I8.pin (s2.heap.objs.size, { cls := .type "list", data := .seq its.toArray k }) (by simp)
        have hlen : ys.length = its.length := rv.length
        refine wpAny_list_append_plain (hsz := by rw [List.size_toArray]; omega) ⟨k, pin8.1⟩ fun h9 ⟨k9, hl9⟩ hs9 => ?_
        have hk9 : ∀ b o, b ≠ s2.heap.objs.size → s8.heap.get? b = some o → h9.get? b = some o := fun b o hb e => (hs9.2 b hb).trans e
        have I8u : Inv Y (pinsAt fp s5.heap) (os6 ++ capt.map fun j => (σ[j]?).join) H8 s8 := I8.pins_of fun p hp => I8.pin p (List.mem_append_right _ (List.mem_append_right _ hp))
        have I9 : Inv Y (pinsAt fp s5.heap) (os6 ++ capt.map fun j => (σ[j]?).join) H8 { s8 with heap := h9, toks := s8.toks } := I8u.turned (it := s2.heap.objs.size) hk9 pin8.2.1 (by rw [eL]; exact Nat.ne_of_lt (show s2.heap.objs.size < HH.objs.size by omega)) (.inl (by rw [eEx]; exact List.mem_cons_self))
          (fun y c e z => by
            rw [ecl] at e
            obtain ⟨v', hv⟩ := I2.cell y c (look y c e)
            have := hv.lt
            rw [z] at this
            exact absurd this (Nat.lt_irrefl _))
          (fun p hp z => by
            rw [ePn, List.nil_append] at hp
            exact Dnf (by rw [← z]; exact (of_pinsAt hp).1))
        have hl9' : h9.get? s2.heap.objs.size = some { cls := .type "list", data := .seq (its ++ [uy]).toArray k9 } := by
          rw [hl9]; simp
        refine ⟨m', hm, i + 1, ys ++ [y], its ++ [uy], k9, os6, H8, I9.pins_of fun p hp => ?_, hos6, rv.append (.cons r8 .nil), ?_, ?_, (ntn I8).2, w8⟩
        · have hp' : p = (s2.heap.objs.size, { cls := .type "list", data := .seq (its ++ [uy]).toArray k9 }) := by simpa using hp
          subst hp'
          exact ⟨hl9', pin8.2.1, pin8.2.2.1, pin8.2.2.2.1, fun v z => by cases z⟩
        · rw [List.length_append, List.length_singleton]; omega
        · refine T.keep _ _ _ (ntn I8).1 fun b hb o e => hk9 b o (fun z => Dnf (by rw [← z]; exact hb)) e
  rw [eEnv] at loop
  refine codeAny_compStart_list ?_ ?_
  · exact loop
  · exact T.self _ 0 _ _ _ st4 loop

theorem pe_compG {elt iter tg : Expr} {g : TG} {ifs : List Expr} {pos : Pos} {wi : TI} {tt : TT} {te : TE} (xs : List Str) (capt : List Nat)
    (hx0 : ∀ e s, ¬ X.xe e s) (hc : X.calm = true) (hi : PI X tg iter wi) (hG : ∀ C s H ex, PG (cxComp X xs capt scope C s H ex) tg g) (hgs : Shp xs.length g)
    (hT : ∀ C s H ex, PTs (cxComp X xs capt scope C s H ex) ifs tt) (hE : ∀ C s H ex, PE (cxComp X xs capt scope C s H ex) elt te)
    (hk : compOk scope X.env.scope xs (capt.map fun j => X.N.getD j "") = true) (hcap : ∀ j ∈ capt, j < X.N.length)
    (hs : ∀ y, foldedSetIterable iter X.env y = pure y := by intro _; rfl) : PE X (.ListComp elt [⟨tg, iter, ifs, 0⟩] scope pos) (tCompG xs.length g capt wi tt te) := by
  intro pins s σ H Q I h
  have ok := compOk.mk hk
  rw [eval_ListComp]
  refine wpAny_comprehension_free (use := none) (cl := clOf X.env scope.names []) rfl hs (closure_clOf fun n k hm hf => ?_) ok.kind ok.names (thn (hi pins s σ H _ I h) fun xv s1 h1 => thn h1 fun itv s2 h2 => ?_)
  · obtain ⟨c, e⟩ := I.ok.has n (.inl (ok.free n k hm (by simpa using hf)))
    rw [e]; rfl
  · obtain ⟨it, fp, tn, J, H2, e, I2, T, st2, f2, hW⟩ := h2
    subst e
    refine comp_block (RR := fun acc C => compPost (model X.prog X.w) X.A X.xe none (EP X pins σ Q) acc C) hx0 hc ok hcap hG hgs hT hE I2 T st2 f2 (fun ys H => ∀ l, H l = none → Q (.ref l) (upd H l (.lst ys))) hW ?_
    intro D C s' ys H' oc hD fin I' hC ⟨m, hns⟩ hCD hCn hL _ hsz hcl hpn _
    refine ⟨m, hns, fun h' hsb => ⟨.ref D, _, I'.turned (t' := s'.toks) (it := C) (fun b o hb e => (hsb.2 b hb).trans e) (by rw [upd_ne hCD]; exact hCn) hL (.inr hsz) hcl hpn, rfl, fin D hD⟩⟩

/-- y = [..]: the list is stored ahead of the block's end -/
theorem ps_compG {elt iter tg : Expr} {g : TG} {py : Pos} {ifs : List Expr} {pos spos : Pos} {wi : TI} {tt : TT} {te : TE} {i : Nat} {y : Str} (xs : List Str) (capt : List Nat)
    (hN : X.N.Nodup) (hiy : X.N[i]? = some y) (hy : Loc X.env.scope y)
    (hx0 : ∀ e s, ¬ X.xe e s) (hc : X.calm = true) (hi : PI X tg iter wi) (hG : ∀ C s H ex, PG (cxComp X xs capt scope C s H ex) tg g) (hgs : Shp xs.length g)
    (hT : ∀ C s H ex, PTs (cxComp X xs capt scope C s H ex) ifs tt) (hE : ∀ C s H ex, PE (cxComp X xs capt scope C s H ex) elt te)
    (hk : compOk scope X.env.scope xs (capt.map fun j => X.N.getD j "") = true) (hcap : ∀ j ∈ capt, j < X.N.length)
    (hsw : swapsWith (.ListComp elt [⟨tg, iter, ifs, 0⟩] scope pos) (some (.Name y py)) spos.line X.env = pure true)
    (hs : ∀ y, foldedSetIterable iter X.env y = pure y := by intro _; rfl) (hf : X.fn y = true ∨ X.env.scope.names.lookup y = some .local := by first | exact .inl rfl | exact .inr rfl | assumption) :
    PS X (.Assign [.Name y py] (.ListComp elt [⟨tg, iter, ifs, 0⟩] scope pos) spos) (tAsg (tCompG xs.length g capt wi tt te) (gName i)) := by
  intro pins s σ H D0 I h
  have ok := compOk.mk hk
  rw [exec_Assign_Name_used _ _ _ _ hsw]
  refine wpAny_bind (wpAny_standAt (wpAny_bind ?_))
  show wpAny _ X.A (do let _ ← comprehension (.ListComp elt [⟨tg, iter, ifs, 0⟩] scope pos) scope X.env _ (newList []) false (eval iter X.env) (some (assign (.Name y py) X.env))) _ _ s
  refine wpAny_bind (wpAny_mono (wpAny_comprehension_free (use := some (assign (.Name y py) X.env)) (cl := clOf X.env scope.names []) (Q := fun _ s' => SP X pins D0 .next s') rfl hs (closure_clOf fun n k hm hf => ?_) ok.kind ok.names (thn (hi pins s σ H _ I h) fun xv s1 h1 => thn h1 fun itv s2 h2 => ?_))
    (fun _ s' hq => wpAny_pure (wpAny_pure hq)) fun _ _ e => e)
  · obtain ⟨c, e⟩ := I.ok.has n (.inl (ok.free n k hm (by simpa using hf)))
    rw [e]; rfl
  · obtain ⟨it, fp, tn, J, H2, e, I2, T, st2, f2, hW⟩ := h2
    subst e
    refine comp_block (RR := fun acc C => compPost (model X.prog X.w) X.A X.xe (some (assign (.Name y py) X.env)) (fun _ s' => SP X pins D0 .next s') acc C) hx0 hc ok hcap hG hgs hT hE I2 T st2 f2 (fun ys H => ∀ l, H l = none → gName i (.ref l) σ (upd H l (.lst ys)) D0.nx) hW ?_
    intro D C s' ys H' oc hD fin I' hC ⟨m, hns⟩ hCD hCn hL hst hsz hcl hpn hnc
    show wpAny _ _ (assign (.Name y py) X.env (.ref D)) _ _ s'
    have hCf : C ∉ X.fs := fun z => by
      rcases I'.ok.stk with e | ⟨e, _⟩
      · exact hst (by rw [e]; exact z)
      · refine hst ?_
        rw [e]
        unfold frs
        rw [List.filterMap_cons]
        split
        · exact z
        · exact List.mem_cons_of_mem _ z
    have Ip : Inv X (pins ++ [(C, oc)]) σ (upd H' D (.lst ys)) s' := I'.pins_of fun p hp => (List.mem_append.mp hp).elim (fun z => I'.pin p (List.mem_append_right _ z)) fun z => by
      have z' : p = (C, oc) := by simpa using z
      subst z'
      exact ⟨hC, by rw [upd_ne hCD]; exact hCn, hL, hCf, hnc⟩
    have pg := pg_name (X := X) (i := i) (x := y) (pos := py) hN hiy hy hf
    refine thn (pg _ s' σ _ (.ref D) (.ref D) (fun σ' H'' => D0.nx σ' H'' ∧ H'' = upd H' D (.lst ys)) Ip rfl ⟨fin D hD, rfl⟩) fun _ s'' ⟨σ', H'', I'', q, eH⟩ => ?_
    subst eH
    have pC := I''.pin (C, oc) (by simp)
    obtain ⟨o, es, ep, ho, r⟩ := hns
    rw [hC] at ho
    cases ho
    refine ⟨m, ⟨oc, es, ep, pC.1, r⟩, fun h' hsb => ?_⟩
    have Iu : Inv X pins σ' (upd H' D (.lst ys)) s'' := I''.pins_of fun p hp => I''.pin p (List.mem_append_right _ (List.mem_append_left _ hp))
    exact ⟨σ', _, Iu.turned (t' := s''.toks) (it := C) (fun b o hb e => (hsb.2 b hb).trans e) pC.2.1 hL (.inr hsz) hcl hpn, q⟩
theorem pe_comp {elt iter : Expr} {x : Str} {px : Pos} {ifs : List Expr} {pos : Pos} {wi : TI} {tt : TT} {te : TE} (capt : List Nat)
    (hx0 : ∀ e s, ¬ X.xe e s) (hc : X.calm = true) (hi : PI X (.Name x px) iter wi)
    (hT : ∀ C s H ex, PTs (cxComp X [x] capt scope C s H ex) ifs tt) (hE : ∀ C s H ex, PE (cxComp X [x] capt scope C s H ex) elt te)
    (hk : compOk scope X.env.scope [x] (capt.map fun j => X.N.getD j "") = true) (hcap : ∀ j ∈ capt, j < X.N.length) (hnd : (x :: capt.map fun j => X.N.getD j "").Nodup)
    (hs : ∀ y, foldedSetIterable iter X.env y = pure y := by intro _; rfl) : PE X (.ListComp elt [⟨.Name x px, iter, ifs, 0⟩] scope pos) (tComp capt wi tt te) := by
  intro pins s σ H Q I h
  have ok := compOk.mk hk
  rw [eval_ListComp]
  refine wpAny_comprehension_free (use := none) (cl := clOf X.env scope.names []) rfl hs (closure_clOf fun n k hm hf => ?_) ok.kind ok.names (thn (hi pins s σ H _ I h) fun xv s1 h1 => thn h1 fun itv s2 h2 => ?_)
  · obtain ⟨c, e⟩ := I.ok.has n (.inl (ok.free n k hm (by simpa using hf)))
    rw [e]; rfl
  · obtain ⟨it, fp, tn, J, H2, e, I2, T, st2, f2, hW⟩ := h2
    subst e
    refine comp_block (RR := fun acc C => compPost (model X.prog X.w) X.A X.xe none (EP X pins σ Q) acc C) hx0 hc ok hcap (xs := [x]) (g := gName 0) (fun C s H ex => pg_name hnd rfl (.inl (lookup_relabel_local (ok.x x (by simp)))) (.inr (lookup_relabel_local (ok.x x (by simp))))) shp_name hT hE I2 T st2 f2 (fun ys H => ∀ l, H l = none → Q (.ref l) (upd H l (.lst ys))) hW.g ?_
    intro D C s' ys H' oc hD fin I' hC ⟨m, hns⟩ hCD hCn hL _ hsz hcl hpn _
    refine ⟨m, hns, fun h' hsb => ⟨.ref D, _, I'.turned (t' := s'.toks) (it := C) (fun b o hb e => (hsb.2 b hb).trans e) (by rw [upd_ne hCD]; exact hCn) hL (.inr hsz) hcl hpn, rfl, fin D hD⟩⟩

/-- y = [..]: the list is stored ahead of the block's end -/
theorem ps_comp {elt iter : Expr} {x : Str} {px : Pos} {py : Pos} {ifs : List Expr} {pos spos : Pos} {wi : TI} {tt : TT} {te : TE} {i : Nat} {y : Str} (capt : List Nat)
    (hN : X.N.Nodup) (hiy : X.N[i]? = some y) (hy : Loc X.env.scope y)
    (hx0 : ∀ e s, ¬ X.xe e s) (hc : X.calm = true) (hi : PI X (.Name x px) iter wi)
    (hT : ∀ C s H ex, PTs (cxComp X [x] capt scope C s H ex) ifs tt) (hE : ∀ C s H ex, PE (cxComp X [x] capt scope C s H ex) elt te)
    (hk : compOk scope X.env.scope [x] (capt.map fun j => X.N.getD j "") = true) (hcap : ∀ j ∈ capt, j < X.N.length) (hnd : (x :: capt.map fun j => X.N.getD j "").Nodup)
    (hsw : swapsWith (.ListComp elt [⟨.Name x px, iter, ifs, 0⟩] scope pos) (some (.Name y py)) spos.line X.env = pure true)
    (hs : ∀ y, foldedSetIterable iter X.env y = pure y := by intro _; rfl) (hf : X.fn y = true ∨ X.env.scope.names.lookup y = some .local := by first | exact .inl rfl | exact .inr rfl | assumption) :
    PS X (.Assign [.Name y py] (.ListComp elt [⟨.Name x px, iter, ifs, 0⟩] scope pos) spos) (tAsg (tComp capt wi tt te) (gName i)) := by
  intro pins s σ H D0 I h
  have ok := compOk.mk hk
  rw [exec_Assign_Name_used _ _ _ _ hsw]
  refine wpAny_bind (wpAny_standAt (wpAny_bind ?_))
  show wpAny _ X.A (do let _ ← comprehension (.ListComp elt [⟨.Name x px, iter, ifs, 0⟩] scope pos) scope X.env _ (newList []) false (eval iter X.env) (some (assign (.Name y py) X.env))) _ _ s
  refine wpAny_bind (wpAny_mono (wpAny_comprehension_free (use := some (assign (.Name y py) X.env)) (cl := clOf X.env scope.names []) (Q := fun _ s' => SP X pins D0 .next s') rfl hs (closure_clOf fun n k hm hf => ?_) ok.kind ok.names (thn (hi pins s σ H _ I h) fun xv s1 h1 => thn h1 fun itv s2 h2 => ?_))
    (fun _ s' hq => wpAny_pure (wpAny_pure hq)) fun _ _ e => e)
  · obtain ⟨c, e⟩ := I.ok.has n (.inl (ok.free n k hm (by simpa using hf)))
    rw [e]; rfl
  · obtain ⟨it, fp, tn, J, H2, e, I2, T, st2, f2, hW⟩ := h2
    subst e
    refine comp_block (RR := fun acc C => compPost (model X.prog X.w) X.A X.xe (some (assign (.Name y py) X.env)) (fun _ s' => SP X pins D0 .next s') acc C) hx0 hc ok hcap (xs := [x]) (g := gName 0) (fun C s H ex => pg_name hnd rfl (.inl (lookup_relabel_local (ok.x x (by simp)))) (.inr (lookup_relabel_local (ok.x x (by simp))))) shp_name hT hE I2 T st2 f2 (fun ys H => ∀ l, H l = none → gName i (.ref l) σ (upd H l (.lst ys)) D0.nx) hW.g ?_
    intro D C s' ys H' oc hD fin I' hC ⟨m, hns⟩ hCD hCn hL hst hsz hcl hpn hnc
    show wpAny _ _ (assign (.Name y py) X.env (.ref D)) _ _ s'
    have hCf : C ∉ X.fs := fun z => by
      rcases I'.ok.stk with e | ⟨e, _⟩
      · exact hst (by rw [e]; exact z)
      · refine hst ?_
        rw [e]
        unfold frs
        rw [List.filterMap_cons]
        split
        · exact z
        · exact List.mem_cons_of_mem _ z
    have Ip : Inv X (pins ++ [(C, oc)]) σ (upd H' D (.lst ys)) s' := I'.pins_of fun p hp => (List.mem_append.mp hp).elim (fun z => I'.pin p (List.mem_append_right _ z)) fun z => by
      have z' : p = (C, oc) := by simpa using z
      subst z'
      exact ⟨hC, by rw [upd_ne hCD]; exact hCn, hL, hCf, hnc⟩
    have pg := pg_name (X := X) (i := i) (x := y) (pos := py) hN hiy hy hf
    refine thn (pg _ s' σ _ (.ref D) (.ref D) (fun σ' H'' => D0.nx σ' H'' ∧ H'' = upd H' D (.lst ys)) Ip rfl ⟨fin D hD, rfl⟩) fun _ s'' ⟨σ', H'', I'', q, eH⟩ => ?_
    subst eH
    have pC := I''.pin (C, oc) (by simp)
    obtain ⟨o, es, ep, ho, r⟩ := hns
    rw [hC] at ho
    cases ho
    refine ⟨m, ⟨oc, es, ep, pC.1, r⟩, fun h' hsb => ?_⟩
    have Iu : Inv X pins σ' (upd H' D (.lst ys)) s'' := I''.pins_of fun p hp => I''.pin p (List.mem_append_right _ (List.mem_append_left _ hp))
    exact ⟨σ', _, Iu.turned (t' := s''.toks) (it := C) (fun b o hb e => (hsb.2 b hb).trans e) pC.2.1 hL (.inr hsz) hcl hpn, q⟩
end
end L2

set_option Elab.async false
set_option linter.all false
set_option maxRecDepth 100000
/-! More rules over the layer: texts, isinstance, all, join, is True, // by large numbers. -/
namespace L2
open PySem PySem.Spec PyProof.Rows
section
variable {X : Cx}

/-- // by any positive divisor below 2 ** 1000 -/
def bigB : Int := 1645504557321206042154969182557350504982735865633579863348609024
def CDivL (i j : Int) : Prop := 0 < j ∧ j < bigB
theorem log2_lt_of {n k : Nat} (h : n < 2 ^ k) (hk : 0 < k) : n.log2 < k := by
  by_cases h0 : n = 0
  · subst h0; simpa using hk
  · exact (Nat.log2_lt h0).mpr h
theorem op_fdivL : OpR X (binaryOp .FloorDiv) (rI CDivL fun i j => .int (i / j)) := opI fun i j _ _ _ _ _ hc q => by
  have h1 : (0 : Int) < j := hc.1
  have h2 : j < bigB := hc.2
  refine floordiv_int (by omega) (by rw [Int.fdiv_eq_ediv_of_nonneg i (by omega)]; exact q) (.inl (PyProof.noPylong_of_log2 ?_))
  have h3 : j.natAbs < 2 ^ 210 := by
    have e : (2 ^ 210 : Nat) = 1645504557321206042154969182557350504982735865633579863348609024 := by decide
    unfold bigB at h2
    rw [e]
    omega
  exact Nat.lt_of_lt_of_le (log2_lt_of h3 (by decide)) (by decide)

/-- isinstance(x, T), T a built-in type -/
theorem call_isinst {T : String} : CallR X (.builtin "isinstance") (fun xs H Q => ∃ x t b, xs = [x, .ty T] ∧ TyOf X.K H x t ∧ PySem.W.kitOne X.K t (.type T) = some b ∧ Q (.bl b) H) := by
  intro pins s σ H xs us Q I r h
  obtain ⟨x, t, b, rfl, ty, e, q⟩ := h
  obtain ⟨u, w', rfl, rx, rt⟩ := vals2 r
  cases rt
  exact isinst_ok I rx ty e fun tk => ⟨.bl b, H, I.tok _, rfl, q⟩

/-- sep.join(xs), a list of texts -/
theorem strs_of {ts : List Str} : ∀ {us : List Value}, Vals (ts.map V.str) us → StrsAre us ts := by
  induction ts with
  | nil => intro us r; cases r; exact .nil
  | cons x xs ih =>
    intro us r
    rw [List.map_cons] at r
    cases r with
    | cons r1 r2 =>
      obtain ⟨t, rfl⟩ := r1
      exact .cons x t (ih r2)
theorem mt_join : MtR X "str.join" (fun x xs H Q => ∃ (sep : Str) (p : Addr) (ts : List Str), x = .str sep ∧ xs = [.ref p] ∧ SqL X.K H p (ts.map V.str) ∧ (ts.map (·.length)).sum + ts.length * sep.length ≤ 16777216 ∧ Q (.str (Txt.join sep ts)) H) := by
  intro pins s σ H x xs v us Q I rx r h
  obtain ⟨sep, p, ts, rfl, rfl, hp, hz, q⟩ := h
  obtain ⟨t, rfl⟩ := rx
  obtain ⟨u, rfl, ru⟩ := vals1 r
  cases ru
  obtain ⟨its, rv, pl, _⟩ := I.list hp
  exact PyProof.Rows.join_list pl.isList (by simpa using strs_of rv) hz fun t' k => ⟨.str _, H, I.tok _, ⟨_, rfl⟩, q⟩
end

/-! ### a text's signs, one by one -/
/-! ### comprehensions by an invariant over the turn -/
section
variable {S : V → St} {tt : TT} {te : TE} {H : Hp} {Fin : List V → Hp → Prop}
theorem comp_range {lo : Int} {n : Nat} (Pv : Nat → List V → Hp → Prop) (h0 : Pv 0 [] H) (hz : ∀ i ys H, i < n → Pv i ys H → ys.length < sizeLine)
    (hs : ∀ i ys H, i < n → Pv i ys H → tt (S (.int (lo + i))) H fun b H2 => if b = true then te (S (.int (lo + i))) H2 fun y H3 => Pv (i + 1) (ys ++ [y]) H3 else Pv (i + 1) ys H2)
    (hd : ∀ ys H, Pv n ys H → Fin ys H) : CompW (Itr lo n) S tt te H Fin := by
  refine ⟨fun i m ys H => m = n - i ∧ i ≤ n ∧ Pv i ys H, ⟨n, by simp, Nat.zero_le _, h0⟩, ?_⟩
  rintro i m ys H ⟨rfl, hi, p⟩
  by_cases hlt : i < n
  · refine .inr ⟨hlt, hz i ys H hlt p, Pv (i + 1), fun ys' H' p' => ⟨n - (i + 1), by omega, rfl, hlt, p'⟩, fun x H' y => ?_⟩
    obtain ⟨e, y⟩ := y
    subst e y
    exact hs i ys _ hlt p
  · have e : i = n := by omega
    subst e
    exact .inl ⟨Nat.le_refl _, hd ys H p⟩
theorem comp_list {K : PySem.W.Frag} {a : Addr} {xs : List V} (Pv : Nat → List V → Hp → Prop) (h0 : Pv 0 [] H) (hl : ∀ i ys H, i ≤ xs.length → Pv i ys H → SqL K H a xs) (hz : ∀ i ys H, i < xs.length → Pv i ys H → ys.length < sizeLine)
    (hs : ∀ i x ys H, xs[i]? = some x → Pv i ys H → tt (S x) H fun b H2 => if b = true then te (S x) H2 fun y H3 => Pv (i + 1) (ys ++ [y]) H3 else Pv (i + 1) ys H2)
    (hd : ∀ ys H, Pv xs.length ys H → Fin ys H) : CompW (Itl K a) S tt te H Fin := by
  refine ⟨fun i m ys H => m = xs.length - i ∧ i ≤ xs.length ∧ Pv i ys H, ⟨xs.length, by simp, Nat.zero_le _, h0⟩, ?_⟩
  rintro i m ys H ⟨rfl, hi, p⟩
  have q := hl i ys H hi p
  by_cases hlt : i < xs.length
  · refine .inr ⟨⟨xs, xs[i], q, by simp [hlt]⟩, hz i ys H hlt p, Pv (i + 1), fun ys' H' p' => ⟨xs.length - (i + 1), by omega, rfl, hlt, p'⟩, fun x H' y => ?_⟩
    obtain ⟨e, y⟩ := y
    subst e
    exact hs i x ys _ (y xs q) p
  · have e : i = xs.length := by omega
    subst e
    exact .inl ⟨⟨xs, q, Nat.le_refl _⟩, hd ys H p⟩
theorem comp_tup {K : PySem.W.Frag} {a : Addr} {xs : List V} (Pv : Nat → List V → Hp → Prop) (h0 : Pv 0 [] H) (hl : ∀ i ys H, i ≤ xs.length → Pv i ys H → SqT K H a xs) (hz : ∀ i ys H, i < xs.length → Pv i ys H → ys.length < sizeLine)
    (hs : ∀ i x ys H, xs[i]? = some x → Pv i ys H → tt (S x) H fun b H2 => if b = true then te (S x) H2 fun y H3 => Pv (i + 1) (ys ++ [y]) H3 else Pv (i + 1) ys H2)
    (hd : ∀ ys H, Pv xs.length ys H → Fin ys H) : CompW (Itt K a) S tt te H Fin := by
  refine ⟨fun i m ys H => m = xs.length - i ∧ i ≤ xs.length ∧ Pv i ys H, ⟨xs.length, by simp, Nat.zero_le _, h0⟩, ?_⟩
  rintro i m ys H ⟨rfl, hi, p⟩
  have q := hl i ys H hi p
  by_cases hlt : i < xs.length
  · refine .inr ⟨⟨xs, xs[i], q, by simp [hlt]⟩, hz i ys H hlt p, Pv (i + 1), fun ys' H' p' => ⟨xs.length - (i + 1), by omega, rfl, hlt, p'⟩, fun x H' y => ?_⟩
    obtain ⟨e, y⟩ := y
    subst e
    exact hs i x ys _ (y xs q) p
  · have e : i = xs.length := by omega
    subst e
    exact .inl ⟨⟨xs, q, Nat.le_refl _⟩, hd ys H p⟩
end

/-! ### a slice of a text -/
/-! ### a dict of the top, its keys texts -/
structure TopD (w : World) (K : PySem.W.Frag) (a : Addr) (kvs : List (Str × V)) : Prop where
  ex : ∃ es n, K.lookup a = some ⟨.type "dict", none, .dict es n, #[]⟩ ∧ PySem.W.KeysLit w.params es.toList ∧ Paired (fun (p : Str × V) (e : DictEntry) => (∃ t, e.key = .str p.1 t) ∧ RelV p.2 e.val) kvs es.toList
  lo : (a == sysModules) = false
theorem top_find {x : Str} : ∀ {kvs : List (Str × V)} {l : List DictEntry}, Paired (fun (p : Str × V) (e : DictEntry) => (∃ t, e.key = .str p.1 t) ∧ RelV p.2 e.val) kvs l →
    RelO (kvs.lookup x) ((l.find? fun e => Value.isStrOf x e.key).map (·.val))
  | _, _, .nil => trivial
  | (k, v) :: kvs, e :: l, .cons ⟨⟨t, ek⟩, rv⟩ r => by
    rw [List.lookup_cons, List.find?_cons]
    have hk : Value.isStrOf x e.key = (x == k) := by
      rw [ek]
      show (k == x) = (x == k)
      by_cases hx : x = k
      · subst hx; rfl
      · have h1 : (x == k) = false := by simpa using hx
        have h2 : (k == x) = false := by simpa using fun z => hx (Eq.symm z)
        rw [h1, h2]
    rw [hk]
    cases hx : x == k with
    | true => exact rv
    | false => exact top_find r
theorem TopD.find {w : World} {K : PySem.W.Frag} {a : Addr} {kvs : List (Str × V)} (D : TopD w K a kvs) (x : Str) : ∃ es n, K.lookup a = some ⟨.type "dict", none, .dict es n, #[]⟩ ∧ PySem.W.KeysLit w.params es.toList ∧ RelO (kvs.lookup x) (findBy Value.isStrOf es x) := by
  obtain ⟨es, n, h1, h2, h3⟩ := D.ex
  refine ⟨es, n, h1, h2, ?_⟩
  have q := top_find (x := x) h3
  unfold findBy
  rw [← Array.find?_toList]
  exact q
section
variable {X : Cx} {a : Addr} {kvs : List (Str × V)}
theorem ix_top (D : TopD X.w X.K a kvs) : IxR X (fun x y H Q => ∃ z v, x = .ref a ∧ y = .str z ∧ kvs.lookup z = some v ∧ Q v H) := by
  intro value slice pins s σ H x y v u Q I rx ry h hs
  obtain ⟨z, r, rfl, rfl, hz, q⟩ := h
  cases rx
  obtain ⟨t, rfl⟩ := ry
  obtain ⟨es, n, h1, h2, h3⟩ := D.find z
  rw [hz] at h3
  obtain ⟨u, hu, ru⟩ := RelO.some_of h3
  have hm := PySem.W.mapOf_K (prog := X.prog) (w := X.w) I.kIn h1 h2
  exact tail_any hm.typeIs slot_dict_getitem.lookup (wpAny_getItem_of (strKind_is _ _ z t) hm hu ⟨r, H, I.tok _, ru, q⟩) hs
end

/-! ### a display of constants, at once -/
def constV : Expr → Option V
  | .Constant (.str x) _ _ => some (.str x)
  | .Constant (.int i) _ _ => some (.int i)
  | .Constant (.bool b) _ _ => some (.bl b)
  | .Constant .none _ _ => some .non
  | _ => none
def constsV : List Expr → Option (List V)
  | [] => some []
  | e :: r => match constV e, constsV r with
    | some v, some vs => some (v :: vs)
    | _, _ => none
def tVals (vs : List V) : TA := fun _ H Q => Q vs H
theorem pa_consts {X : Cx} : ∀ {es : List Expr} {vs : List V}, constsV es = some vs → PA X es (tVals vs)
  | [], vs, h => by
    cases h
    exact pa_nil
  | e :: r, vs, h => by
    unfold constsV at h
    cases he : constV e with
    | none => rw [he] at h; cases h
    | some v =>
      cases hr : constsV r with
      | none => rw [he, hr] at h; cases h
      | some ws =>
        rw [he, hr] at h
        have h' : v :: ws = vs := Option.some.inj h
        subst h'
        have ih := pa_consts (X := X) hr
        unfold constV at he
        split at he
        · cases he
          exact pa_cons (te := tC (.str _)) pe_str ih
        · cases he
          exact pa_cons (te := tC (.int _)) pe_int ih
        · cases he
          exact pa_cons (te := tC (.bl _)) pe_bl ih
        · cases he
          exact pa_cons (te := tC .non) pe_non ih
        · cases he

/-! ### a long display of constants: kept folded, so that no look at a goal runs it -/
@[irreducible] def bigL (es : List Expr) (pos : Pos) : Expr := .List es pos
@[irreducible] def bigT (es : List Expr) (k : Nat) (pos : Pos) : Expr := .Tuple es k pos
theorem bigL_eq (a b c d e : Expr) (es : List Expr) (pos : Pos) : Expr.List (a :: b :: c :: d :: e :: es) pos = bigL (a :: b :: c :: d :: e :: es) pos := by unfold bigL; rfl
theorem bigT_eq (a b c d e : Expr) (es : List Expr) (k : Nat) (pos : Pos) : Expr.Tuple (a :: b :: c :: d :: e :: es) k pos = bigT (a :: b :: c :: d :: e :: es) k pos := by unfold bigT; rfl
theorem pe_consts {X : Cx} {es : List Expr} {vs : List V} (h : constsV es = some vs) (pos : Pos) : PE X (.List es pos) (tLst (tVals vs)) := pe_lst (pa_consts h)
theorem pe_bigL {X : Cx} {es : List Expr} {vs : List V} {pos : Pos} (h : constsV es = some vs) : PE X (bigL es pos) (tLst (tVals vs)) := by
  unfold bigL
  exact pe_consts h pos
end L2

set_option Elab.async false
set_option linter.all false
set_option maxRecDepth 100000
/-! Equality of things built of lists and tuples, by what they read as. -/
namespace L2
open PySem PySem.Spec PyProof.Rows PySem.SeqAt

mutual
/-- a value reads as a thing -/
def RdD (K : PySem.W.Frag) (H : Hp) : PyData → V → Prop
  | .none, v => v = .non
  | .bool b, v => v = .bl b
  | .int i, v => v = .int i
  | .str x, v => v = .str x
  | .list ds, v => ∃ p xs, v = .ref p ∧ SqL K H p xs ∧ RdDs K H ds xs
  | .tuple ds, v => ∃ p xs, v = .ref p ∧ SqT K H p xs ∧ RdDs K H ds xs
  | .dict _, _ => False
def RdDs (K : PySem.W.Frag) (H : Hp) : List PyData → List V → Prop
  | [], xs => xs = []
  | d :: ds, xs => ∃ x r, xs = x :: r ∧ RdD K H d x ∧ RdDs K H ds r
end
section
variable {K : PySem.W.Frag} {H H' : Hp}
theorem RdDs.ints (ns : List Int) : RdDs K H (ns.map PyData.int) (ns.map V.int) := by
  induction ns with
  | nil => unfold RdDs; rfl
  | cons n r ih =>
    show RdDs K H (PyData.int n :: r.map PyData.int) (V.int n :: r.map V.int)
    unfold RdDs
    exact ⟨_, _, rfl, by unfold RdD; rfl, ih⟩
theorem RdD.lst {ds : List PyData} {p : Addr} {xs : List V} (h : SqL K H p xs) (r : RdDs K H ds xs) : RdD K H (.list ds) (.ref p) := by
  unfold RdD
  exact ⟨p, xs, rfl, h, r⟩
end

/-- a thing that can be compared -/
def Cmp (n : Nat) (d : PyData) : Prop := d.canLay0 = true ∧ d.depth ≤ n
theorem Cmp.int {n : Nat} (i : Int) : Cmp n (.int i) := ⟨by simp [PyData.canLay0], by simp [PyData.depth]⟩
theorem cmpAll {n : Nat} : ∀ {ds : List PyData}, (∀ d ∈ ds, Cmp n d) → PyData.canLayAll0 ds = true ∧ PyData.depthAll ds ≤ n
  | [], _ => ⟨by simp [PyData.canLayAll0], by simp [PyData.depthAll]⟩
  | d :: ds, h => by
    obtain ⟨h1, h2⟩ := h d List.mem_cons_self
    obtain ⟨h3, h4⟩ := cmpAll (ds := ds) fun e he => h e (List.mem_cons_of_mem _ he)
    refine ⟨by simp [PyData.canLayAll0, h1, h3], ?_⟩
    simp only [PyData.depthAll]
    omega
theorem Cmp.list {n : Nat} {ds : List PyData} (h : ∀ d ∈ ds, Cmp n d) : Cmp (n + 1) (.list ds) := by
  obtain ⟨h1, h2⟩ := cmpAll h
  exact ⟨by simp [PyData.canLay0, h1], by simp only [PyData.depth]; omega⟩
theorem Cmp.mono {n m : Nat} {d : PyData} (h : Cmp n d) (l : n ≤ m) : Cmp m d := ⟨h.1, Nat.le_trans h.2 l⟩
theorem Cmp.ints {n : Nat} (ns : List Int) : ∀ d ∈ ns.map PyData.int, Cmp n d := fun d hd => by
  obtain ⟨i, _, rfl⟩ := List.mem_map.mp hd
  exact .int i
theorem eqvAll_ints : ∀ (a b : List Int), PyData.eqvAll (a.map PyData.int) (b.map PyData.int) = decide (a = b)
  | [], [] => by simp [PyData.eqvAll]
  | [], _ :: _ => by simp [PyData.eqvAll]
  | _ :: _, [] => by simp [PyData.eqvAll]
  | x :: a, y :: b => by
    show PyData.eqvAll (PyData.int x :: a.map PyData.int) (PyData.int y :: b.map PyData.int) = _
    rw [PyData.eqvAll, eqvAll_ints a b, PyData.eqv]
    by_cases h : x = y <;> simp [h]

section
variable {X : Cx} {pins : List (Addr × Obj)} {σ : St} {H : Hp} {s : Shared}
mutual
theorem Inv.reads (I : Inv X pins σ H s) : ∀ {d : PyData} {x : V} {v : Value}, RdD X.K H d x → RelV x v → ∃ as, Reads s.heap v d as
  | .none, _, _, h, r => by unfold RdD at h; subst h; cases r; exact ⟨_, .none⟩
  | .bool b, _, _, h, r => by unfold RdD at h; subst h; cases r; exact ⟨_, .bool b⟩
  | .int i, _, _, h, r => by unfold RdD at h; subst h; obtain ⟨t, rfl⟩ := r; exact ⟨_, .int i t⟩
  | .str i, _, _, h, r => by unfold RdD at h; subst h; obtain ⟨t, rfl⟩ := r; exact ⟨_, .str i t⟩
  | .list ds, _, _, h, r => by
    unfold RdD at h
    obtain ⟨p, xs, rfl, h2, h3⟩ := h
    cases r
    obtain ⟨its, rv, ⟨o, n, e1, e2, e3, e4⟩, _⟩ := I.list h2
    obtain ⟨as, ra⟩ := Inv.readsAll I h3 rv
    exact ⟨_, .list e1 e2 e4 (by simpa using ra)⟩
  | .tuple ds, _, _, h, r => by
    unfold RdD at h
    obtain ⟨p, xs, rfl, h2, h3⟩ := h
    cases r
    obtain ⟨its, rv, ⟨o, e1, e2, n, e4⟩, _⟩ := I.tuple h2
    obtain ⟨as, ra⟩ := Inv.readsAll I h3 rv
    exact ⟨_, .tuple e1 e2 e4 (by simpa using ra)⟩
  | .dict _, _, _, h, _ => by unfold RdD at h; exact h.elim
theorem Inv.readsAll (I : Inv X pins σ H s) : ∀ {ds : List PyData} {xs : List V} {vs : List Value}, RdDs X.K H ds xs → Vals xs vs → ∃ as, ReadsAll s.heap vs ds as
  | [], _, _, h, r => by unfold RdDs at h; subst h; cases r; exact ⟨_, .nil⟩
  | d :: ds, _, _, h, r => by
    unfold RdDs at h
    obtain ⟨x, q, rfl, h2, h3⟩ := h
    cases r with
    | cons r1 r2 =>
      obtain ⟨as, ra⟩ := Inv.reads I h2 r1
      obtain ⟨bs, rb⟩ := Inv.readsAll I h3 r2
      exact ⟨_, .cons ra rb⟩
end
def rEqD (K : PySem.W.Frag) (no : Bool) : R2 := fun x y H Q => ∃ dx dy, RdD K H dx x ∧ RdD K H dy y ∧ Cmp 64 dx ∧ Cmp 64 dy ∧ Q (.bl (no ^^ PyData.eqv dx dy)) H
theorem Cmp.shaped {d : PyData} (h : Cmp 64 d) : shaped d = true := by
  unfold SeqAt.shaped
  rw [h.1, decide_eq_true h.2]
  rfl
theorem op_eqD (hu : X.A.units + 64 < cLine) : OpR X (compareOp .Eq) (rEqD X.K false) := by
  intro pins s σ H x y v u Q I rx ry h
  obtain ⟨dx, dy, hx, hy, cx, cy, q⟩ := h
  obtain ⟨as, ra⟩ := I.reads hx rx
  obtain ⟨bs, rb⟩ := I.reads hy ry
  rw [Bool.false_xor] at q
  exact compareEq_shaped ra rb cx.shaped cy.shaped hu ⟨.bl _, H, I, rfl, q⟩
end
end L2

set_option Elab.async false
set_option linter.all false
set_option maxRecDepth 100000
/-! The rules that speak of the module's objects, for a context within another: these are the same there. -/
namespace L2
open PySem PySem.Spec PyProof.Rows
section
variable {X : Cx} {K : PySem.W.Frag} (h : X.K = K)
include h
theorem ix_listK : IxR X (rIxL K) := by subst h; exact ix_list
theorem ix_tupK : IxR X (rIxT K) := by subst h; exact ix_tup
theorem call_isinstK {T : String} : CallR X (.builtin "isinstance") (fun xs H Q => ∃ x t b, xs = [x, .ty T] ∧ TyOf K H x t ∧ PySem.W.kitOne K t (.type T) = some b ∧ Q (.bl b) H) := by subst h; exact call_isinst
end
end L2

set_option Elab.async false
set_option linter.all false
set_option maxRecDepth 100000
/-! Works as the laws build them, lists of tuples of two numbers, rows of drawn numbers. -/
namespace L2
open PySem PySem.Spec
theorem same_new {H : Hp} {p : Addr} (h : H p = none) (o : HO) : Same H (upd H p o) := fun b u q => by rw [upd_ne (ne_of_none q h)]; exact q
theorem small {n : Nat} (h : n ≤ 100000) : n ≤ sizeLine := Nat.le_trans h (by decide)
theorem smallL {n : Nat} (h : n ≤ 100000) : n < sizeLine := Nat.lt_of_le_of_lt h (by decide)
theorem at_ints {ns : List Int} {i : Int} (h0 : 0 ≤ i) (h : i < ns.length) : ∃ v : Int, atI (ns.map V.int) i = some (.int v) ∧ v ∈ ns ∧ v = ns.getD i.toNat 0 := by
  obtain ⟨k, rfl⟩ := Int.eq_ofNat_of_zero_le h0
  have hk : k < ns.length := by omega
  refine ⟨ns[k], atI_nat (by rw [List.getElem?_map, List.getElem?_eq_getElem hk] <;> rfl), List.getElem_mem hk, ?_⟩
  rw [Int.toNat_natCast, List.getD_eq_getElem?_getD, List.getElem?_eq_getElem hk]
  rfl
/-- rows of drawn numbers -/
def Drawn (rs : List Int) : Prop := ∀ r ∈ rs, 0 ≤ r ∧ r < 1000000
def sp_L_row (K : PySem.W.Frag) : Sp := fun vs H Q _ => ∃ (a : Addr) (ns : List Int) (i n : Int), vs = [.ref a, .int i, .int n] ∧ SqL K H a (ns.map V.int) ∧ ns.length ≤ 63 ∧ 0 ≤ i ∧ 0 ≤ n ∧ n ≤ 1000 ∧
  ∀ p (rs : List Int) H', H p = none → Same H H' → H' p = some (.lst (rs.map V.int)) → (rs.length : Int) = n → Drawn rs → Q (.ref p) H'
/-- a list of tuples of two numbers -/
def PrsR (H : Hp) (b : Addr) (rs : List Addr) (ps : List (Int × Int)) : Prop := H b = some (.lst (rs.map V.ref)) ∧ Paired (fun r (p : Int × Int) => H r = some (.tup [.int p.1, .int p.2])) rs ps
theorem pairedMono {α β : Type} {R S : α → β → Prop} (h : ∀ a b, R a b → S a b) : ∀ {xs : List α} {ys : List β}, Paired R xs ys → Paired S xs ys
  | _, _, .nil => .nil
  | _, _, .cons a b => .cons (h _ _ a) (pairedMono h b)
theorem pairedApp {α β : Type} {R : α → β → Prop} {us : List α} {vs : List β} (h : Paired R us vs) : ∀ {xs : List α} {ys : List β}, Paired R xs ys → Paired R (xs ++ us) (ys ++ vs)
  | _, _, .nil => h
  | _, _, .cons a b => .cons a (pairedApp h b)
theorem PrsR.same {H H' : Hp} {b : Addr} {rs : List Addr} {ps : List (Int × Int)} (s : Same H H') (h : PrsR H b rs ps) : PrsR H' b rs ps := ⟨s _ _ h.1, pairedMono (fun r p q => s _ _ q) h.2⟩
theorem PrsR.length {H : Hp} {b : Addr} {rs : List Addr} {ps : List (Int × Int)} (h : PrsR H b rs ps) : rs.length = ps.length := Paired.length h.2
theorem PrsR.get {H : Hp} {b : Addr} {rs : List Addr} {ps : List (Int × Int)} (h : PrsR H b rs ps) {i : Nat} (hi : i < ps.length) : ∃ r, (rs.map V.ref)[i]? = some (.ref r) ∧ H r = some (.tup [.int ps[i].1, .int ps[i].2]) := by
  obtain ⟨hb, h⟩ := h
  clear hb
  induction h generalizing i with
  | nil => exact absurd hi (Nat.not_lt_zero _)
  | cons a r ih =>
    cases i with
    | zero => exact ⟨_, rfl, a⟩
    | succ k =>
      obtain ⟨q, h1, h2⟩ := ih (i := k) (by simpa using hi)
      exact ⟨q, by simpa using h1, by simpa using h2⟩
theorem cut_from {xs : List V} {n : Nat} (h : n ≤ xs.length) : cutV xs (some (n : Int)) none = xs.drop n := by
  unfold cutV
  rw [HT.sIx_nat, HT.sIx_none, Nat.min_eq_left h, List.take_of_length_le (by rw [List.length_drop]; omega)]
theorem cut_to {xs : List V} {n : Nat} (h : n ≤ xs.length) : cutV xs none (some (n : Int)) = xs.take n := by
  unfold cutV
  rw [HT.sIx_nat, HT.sIx_none, Nat.min_eq_left h, List.drop_zero, Nat.sub_zero]
theorem ite_f {c : Bool} {A B : Prop} (h : c = false) (q : B) : if c = true then A else B := by rw [h]; exact q
theorem ite_t {c : Bool} {A B : Prop} (h : c = true) (q : A) : if c = true then A else B := by rw [h]; exact q
end L2

set_option Elab.async false
set_option linter.all false
set_option maxRecDepth 100000
/-! Comprehensions that tell a value for each thing, and the bits of a work's knots and ends. -/
namespace L2
open PySem PySem.Spec
section
variable {K : PySem.W.Frag} {a : Addr} {S : V → St} {te : TE} {H : Hp} {Fin : List V → Hp → Prop}
theorem comp_list_map {xs : List V} (f : V → V) (hS : SqL K H a xs) (hz : xs.length ≤ 100000) (hs : ∀ x ∈ xs, ∀ N : V → Hp → Prop, N (f x) H → te (S x) H N) (hd : Fin (xs.map f) H) : CompW (Itl K a) S tYes te H Fin := by
  refine comp_list (xs := xs) (fun i ys H' => ys = (xs.take i).map f ∧ H = H') ⟨rfl, rfl⟩ ?_ ?_ ?_ ?_
  · rintro i ys H' _ ⟨_, rfl⟩
    exact hS
  · rintro i ys H' hi ⟨rfl, _⟩
    rw [List.length_map, List.length_take]
    exact smallL (by omega)
  · rintro i x ys H' hx ⟨rfl, rfl⟩
    obtain ⟨hi, he⟩ := List.getElem?_eq_some_iff.mp hx
    unfold tYes
    dsimp only
    rw [if_pos rfl]
    refine hs x (he ▸ List.getElem_mem hi) _ ⟨?_, rfl⟩
    rw [List.take_succ_eq_append_getElem hi, List.map_append, he]
    rfl
  · rintro ys H' ⟨rfl, rfl⟩
    rw [List.take_length]
    exact hd
theorem comp_range_map {lo : Int} {n : Nat} (f : Nat → V) (hz : n ≤ 100000) (hs : ∀ i, i < n → ∀ N : V → Hp → Prop, N (f i) H → te (S (.int (lo + i))) H N) (hd : Fin ((List.range n).map f) H) : CompW (Itr lo n) S tYes te H Fin := by
  refine comp_range (fun i ys H' => ys = (List.range i).map f ∧ H = H') ⟨rfl, rfl⟩ ?_ ?_ ?_
  · rintro i ys H' hi ⟨rfl, _⟩
    rw [List.length_map, List.length_range]
    exact smallL (by omega)
  · rintro i ys H' hi ⟨rfl, rfl⟩
    unfold tYes
    dsimp only
    rw [if_pos rfl]
    refine hs i hi _ ⟨?_, rfl⟩
    rw [List.range_succ, List.map_append]
    rfl
  · rintro ys H' ⟨rfl, rfl⟩
    exact hd
theorem comp_prs_map {rs : List Addr} {ps : List (Int × Int)} (f : Int × Int → V) (hP : PrsR H a rs ps) (hz : ps.length ≤ 100000)
    (hs : ∀ p ∈ ps, ∀ r, H r = some (.tup [.int p.1, .int p.2]) → ∀ N : V → Hp → Prop, N (f p) H → te (S (.ref r)) H N) (hd : Fin (ps.map f) H) : CompW (Itl K a) S tYes te H Fin := by
  have hl : (rs.map V.ref).length = ps.length := by rw [List.length_map, hP.length]
  refine comp_list (xs := rs.map V.ref) (fun i ys H' => ys = (ps.take i).map f ∧ H = H') ⟨rfl, rfl⟩ ?_ ?_ ?_ ?_
  · rintro i ys H' _ ⟨_, rfl⟩
    exact SqL.of hP.1
  · rintro i ys H' hi ⟨rfl, _⟩
    rw [List.length_map, List.length_take]
    exact smallL (by omega)
  · rintro i x ys H' hx ⟨rfl, rfl⟩
    obtain ⟨hi, _⟩ := List.getElem?_eq_some_iff.mp hx
    rw [hl] at hi
    obtain ⟨r, h1, h2⟩ := hP.get hi
    rw [h1] at hx
    cases hx
    unfold tYes
    dsimp only
    rw [if_pos rfl]
    refine hs _ (List.getElem_mem hi) r h2 _ ⟨?_, rfl⟩
    rw [List.take_succ_eq_append_getElem hi, List.map_append]
    rfl
  · rintro ys H' ⟨rfl, rfl⟩
    rw [hl, List.take_length]
    exact hd
end
/-! ### bits -/
def fl (h : Int) (xs : List Int) : List Int := xs.flatMap fun n => [n, Builtin.bitXor h n]
def estep (h : Int) (E : List Int) (g : Int × Int) : List Int := E ++ [Builtin.bitAnd (E.getD g.1.toNat 0) (E.getD g.2.toNat 0), Builtin.bitXor h (Builtin.bitAnd (E.getD g.1.toNat 0) (E.getD g.2.toNat 0))]
/-- what the ends have, by the numbers of ins and boxes -/
def eL (h : Int) (xs : List Int) (gs : List (Int × Int)) : List Int := gs.foldl (estep h) ([0, h] ++ fl h xs)
end L2
namespace L2
open PySem PySem.Spec
theorem at_getD {ns : List Int} {i : Int} (h0 : 0 ≤ i) (h : i < ns.length) : atI (ns.map V.int) i = some (.int (ns.getD i.toNat 0)) := by
  obtain ⟨v, h1, _, h2⟩ := at_ints h0 h
  rw [h1, h2]
end L2

set_option Elab.async false
set_option linter.all false
set_option maxRecDepth 100000
/-! Any thing, by what it reads as. -/
namespace L2
open PySem PySem.Spec PyProof.Rows
section
variable {X : Cx}
end
mutual
/-- a value reads as a thing, all of it in the heap -/
def Dat (H : Hp) : PyData → V → Prop
  | .none, v => v = .non
  | .bool b, v => v = .bl b
  | .int i, v => v = .int i
  | .str x, v => v = .str x
  | .list ds, v => ∃ p xs, v = .ref p ∧ H p = some (.lst xs) ∧ Dats H ds xs
  | .tuple ds, v => ∃ p xs, v = .ref p ∧ H p = some (.tup xs) ∧ Dats H ds xs
  | .dict _, _ => False
def Dats (H : Hp) : List PyData → List V → Prop
  | [], xs => xs = []
  | d :: ds, xs => ∃ x r, xs = x :: r ∧ Dat H d x ∧ Dats H ds r
end
section
variable {H H' : Hp}
mutual
theorem Dat.same (e : Same H H') : ∀ {d : PyData} {v : V}, Dat H d v → Dat H' d v
  | .none, _, h => by unfold Dat at *; exact h
  | .bool _, _, h => by unfold Dat at *; exact h
  | .int _, _, h => by unfold Dat at *; exact h
  | .str _, _, h => by unfold Dat at *; exact h
  | .list ds, _, h => by
    unfold Dat at *
    obtain ⟨p, xs, h1, h2, h3⟩ := h
    exact ⟨p, xs, h1, e _ _ h2, Dats.same e h3⟩
  | .tuple ds, _, h => by
    unfold Dat at *
    obtain ⟨p, xs, h1, h2, h3⟩ := h
    exact ⟨p, xs, h1, e _ _ h2, Dats.same e h3⟩
  | .dict _, _, h => by unfold Dat at h; exact h.elim
theorem Dats.same (e : Same H H') : ∀ {ds : List PyData} {xs : List V}, Dats H ds xs → Dats H' ds xs
  | [], _, h => by unfold Dats at *; exact h
  | d :: ds, _, h => by
    unfold Dats at *
    obtain ⟨x, r, h1, h2, h3⟩ := h
    exact ⟨x, r, h1, Dat.same e h2, Dats.same e h3⟩
end
theorem Dat.int (i : Int) : Dat H (.int i) (.int i) := by unfold Dat; rfl
theorem Dat.str (x : Str) : Dat H (.str x) (.str x) := by unfold Dat; rfl
theorem Dat.tup {ds : List PyData} {p : Addr} {xs : List V} (h : H p = some (.tup xs)) (r : Dats H ds xs) : Dat H (.tuple ds) (.ref p) := by unfold Dat; exact ⟨p, xs, rfl, h, r⟩
theorem Dats.nil : Dats H [] [] := by unfold Dats; rfl
theorem Dats.cons {d : PyData} {ds : List PyData} {x : V} {xs : List V} (h : Dat H d x) (r : Dats H ds xs) : Dats H (d :: ds) (x :: xs) := by unfold Dats; exact ⟨x, xs, rfl, h, r⟩
theorem Dats.ints (ns : List Int) : Dats H (ns.map PyData.int) (ns.map V.int) := by
  induction ns with
  | nil => exact .nil
  | cons n r ih => exact .cons (.int n) ih
theorem Dats.length {ds : List PyData} {xs : List V} (a : Dats H ds xs) : ds.length = xs.length := by
  induction ds generalizing xs with
  | nil => unfold Dats at a; subst a; rfl
  | cons d r ih =>
    unfold Dats at a
    obtain ⟨x, q, rfl, h1, h2⟩ := a
    simp [ih h2]
theorem Dats.get {ds : List PyData} {xs : List V} (a : Dats H ds xs) {i : Nat} {x : V} (h : xs[i]? = some x) : ∃ d, ds[i]? = some d ∧ Dat H d x := by
  induction ds generalizing xs i with
  | nil => unfold Dats at a; subst a; simp at h
  | cons d r ih =>
    unfold Dats at a
    obtain ⟨y, q, rfl, h1, h2⟩ := a
    cases i with
    | zero => simp at h; subst h; exact ⟨d, rfl, h1⟩
    | succ k => exact ih h2 (by simpa using h)
theorem Dats.append {ds es : List PyData} {xs ys : List V} (a : Dats H ds xs) (b : Dats H es ys) : Dats H (ds ++ es) (xs ++ ys) := by
  induction ds generalizing xs with
  | nil => unfold Dats at a; subst a; exact b
  | cons d r ih =>
    unfold Dats at a
    obtain ⟨x, q, rfl, h1, h2⟩ := a
    exact .cons h1 (ih h2)
theorem Dats.drop {ds : List PyData} {xs : List V} (a : Dats H ds xs) (n : Nat) : Dats H (ds.drop n) (xs.drop n) := by
  induction ds generalizing xs n with
  | nil => unfold Dats at a; subst a; simp; exact .nil
  | cons d r ih =>
    cases n with
    | zero => exact a
    | succ n =>
      unfold Dats at a
      obtain ⟨x, q, rfl, h1, h2⟩ := a
      exact ih h2 n
end
/-! ### kinds -/
def dInt : PyData → Bool
  | .int _ => true | .bool _ => true | _ => false
def dBool : PyData → Bool
  | .bool _ => true | _ => false
def dStr : PyData → Bool
  | .str _ => true | _ => false
def dTup : PyData → Bool
  | .tuple _ => true | _ => false
def dLst : PyData → Bool
  | .list _ => true | _ => false
theorem Dat.ty {K : PySem.W.Frag} {H : Hp} {d : PyData} {v : V} (h : Dat H d v) : ∃ t, TyOf K H v t ∧ PySem.W.kitOne K t (.type "int") = some (dInt d) ∧ PySem.W.kitOne K t (.type "bool") = some (dBool d) ∧ PySem.W.kitOne K t (.type "str") = some (dStr d) ∧ PySem.W.kitOne K t (.type "tuple") = some (dTup d) ∧ PySem.W.kitOne K t (.type "list") = some (dLst d) := by
  cases d with
  | none => unfold Dat at h; subst h; exact ⟨_, .non, rfl, rfl, rfl, rfl, rfl⟩
  | bool b => unfold Dat at h; subst h; exact ⟨_, .bl b, rfl, rfl, rfl, rfl, rfl⟩
  | int b => unfold Dat at h; subst h; exact ⟨_, .int b, rfl, rfl, rfl, rfl, rfl⟩
  | str b => unfold Dat at h; subst h; exact ⟨_, .str b, rfl, rfl, rfl, rfl, rfl⟩
  | list ds =>
    unfold Dat at h
    obtain ⟨p, xs, rfl, h2, _⟩ := h
    exact ⟨_, .lst h2, rfl, rfl, rfl, rfl, rfl⟩
  | tuple ds =>
    unfold Dat at h
    obtain ⟨p, xs, rfl, h2, _⟩ := h
    exact ⟨_, .tup h2, rfl, rfl, rfl, rfl, rfl⟩
  | dict _ => unfold Dat at h; exact h.elim
section
variable {K : PySem.W.Frag} {a : Addr} {S : V → St} {te : TE} {H : Hp} {Fin : List V → Hp → Prop}
end
/-! ### works -/
theorem Dat.tupI {H : Hp} {ds : List PyData} {v : V} (h : Dat H (.tuple ds) v) : ∃ p xs, v = .ref p ∧ H p = some (.tup xs) ∧ Dats H ds xs := by unfold Dat at h; exact h
theorem Dat.intI {H : Hp} {i : Int} {v : V} (h : Dat H (.int i) v) : v = .int i := by unfold Dat at h; exact h
theorem Dats.consI {H : Hp} {d : PyData} {ds : List PyData} {xs : List V} (h : Dats H (d :: ds) xs) : ∃ x r, xs = x :: r ∧ Dat H d x ∧ Dats H ds r := by unfold Dats at h; exact h
theorem Dats.nilI {H : Hp} {xs : List V} (h : Dats H [] xs) : xs = [] := by unfold Dats at h; exact h
end L2

set_option Elab.async false
set_option linter.all false
set_option maxRecDepth 100000
/-! A bag of digits, and sayings. -/
namespace L2
open PySem PySem.Spec
def Bag (H : Hp) (l : Addr) : Prop := ∃ b0 b1 : Int, H l = some (.lst [.int b0, .int b1]) ∧ 0 ≤ b0
/-- all but the bag stays, the bag is one again -/
def Bg (l : Addr) (H H' : Hp) : Prop := (∀ b o, b ≠ l → H b = some o → H' b = some o) ∧ Bag H' l
theorem Bg.trans {l : Addr} {H H1 H2 : Hp} (a : Bg l H H1) (b : Bg l H1 H2) : Bg l H H2 := ⟨fun c o n e => b.1 c o n (a.1 c o n e), b.2⟩
theorem Bg.refl {l : Addr} {H : Hp} (b : Bag H l) : Bg l H H := ⟨fun _ _ _ e => e, b⟩
theorem Bag.ne {H : Hp} {l p : Addr} (b : Bag H l) (n : H p = none) : p ≠ l := fun e => by
  obtain ⟨_, _, h, _⟩ := b
  rw [e, h] at n; cases n
theorem Bag.neT {H : Hp} {l p : Addr} {xs : List V} (b : Bag H l) (n : H p = some (.tup xs)) : p ≠ l := fun e => by
  obtain ⟨_, _, h, _⟩ := b
  rw [e, h] at n; cases n
theorem Bg.new {l p : Addr} {H : Hp} (b : Bag H l) (n : H p = none) (o : HO) : Bg l H (upd H p o) := by
  refine ⟨fun c u _ e => by rw [upd_ne (ne_of_none e n)]; exact e, ?_⟩
  obtain ⟨b0, b1, h, h0⟩ := b
  exact ⟨b0, b1, by rw [upd_ne (ne_of_none h n)]; exact h, h0⟩
theorem Bg.put {l : Addr} {H : Hp} (b0 b1 : Int) (h0 : 0 ≤ b0) : Bg l H (upd H l (.lst [.int b0, .int b1])) :=
  ⟨fun c u n e => by rw [upd_ne n]; exact e, b0, b1, upd_same, h0⟩
theorem Bag.set {l p : Addr} {H : Hp} (b : Bag H l) (hp : p ≠ l) (o : HO) : Bag (upd H p o) l := by
  obtain ⟨b0, b1, h, h0⟩ := b
  exact ⟨b0, b1, by rw [upd_ne (Ne.symm hp)]; exact h, h0⟩
theorem Bg.set {l p : Addr} {H H' : Hp} (b : Bg l H H') (n : H p = none) (hp : p ≠ l) (o : HO) : Bg l H (upd H' p o) :=
  ⟨fun c u nc e => by rw [upd_ne (ne_of_none e n)]; exact b.1 c u nc e, b.2.set hp o⟩
theorem Bg.same {l : Addr} {H H1 H2 : Hp} (n : H l = none) (a : Same H H1) (b : Bg l H1 H2) : Same H H2 := fun c o e => b.1 c o (ne_of_none e n) (a c o e)
theorem Bag.same {H H' : Hp} {l : Addr} (b : Bag H l) (s : Same H H') : Bg l H H' := by
  obtain ⟨b0, b1, h, h0⟩ := b
  exact ⟨fun c o _ e => s c o e, b0, b1, s _ _ h, h0⟩
theorem at_any {α : Type} {xs : List α} {i : Int} (h0 : 0 ≤ i) (h : i < xs.length) : ∃ v, atI xs i = some v ∧ xs[i.toNat]? = some v := by
  obtain ⟨k, rfl⟩ := Int.eq_ofNat_of_zero_le h0
  have hk : k < xs.length := by omega
  exact ⟨xs[k], atI_nat (List.getElem?_eq_getElem hk), by rw [Int.toNat_natCast]; exact List.getElem?_eq_getElem hk⟩
theorem at_map {ns : List Int} {i : Nat} (h : i < ns.length) : ∃ v : Int, atI (ns.map V.int) (i : Int) = some (.int v) :=
  ⟨ns[i], atI_nat (by rw [List.getElem?_map, List.getElem?_eq_getElem h] <;> rfl)⟩
theorem at_mapI {ns : List Int} {i : Int} (h0 : 0 ≤ i) (h : i < ns.length) : ∃ v : Int, atI (ns.map V.int) i = some (.int v) := by
  obtain ⟨k, rfl⟩ := Int.eq_ofNat_of_zero_le h0
  exact at_map (by omega)
def sp_L_bag (K : PySem.W.Frag) : Sp := fun vs H Q _ => ∃ (a : Addr) (ns : List Int) (i : Int), vs = [.ref a, .int i] ∧ SqL K H a (ns.map V.int) ∧ ns.length ≤ 63 ∧ 0 ≤ i ∧ ∀ l b0 b1, H l = none → (0 : Int) ≤ b0 → Q (.ref l) (upd H l (.lst [.int b0, .int b1]))
def sp_L_take : Sp := fun vs H Q _ => ∃ (l : Addr) (many : Int), vs = [.ref l, .int many] ∧ Bag H l ∧ 0 < many ∧ many < bigB ∧ ∀ d H', 0 ≤ d → d < many → Bg l H H' → Q (.int d) H'
def words : List Str := ["wire", "number", "not", "and", "or", "odd", "sum", "less", "under", "same", "choice", "up", "down", "join", "cut", "table"]
/-! ### sayings -/
def formK (z : Str) : Nat := if z = "wire" then 2 else if z = "number" then 3 else if z = "up" then 2 else if z = "down" then 2 else if z = "cut" then 3 else if z = "table" then 3 else 1
def formN (z : Str) : Nat := if z = "wire" then 2 else if z = "not" then 2 else if z = "choice" then 4 else if z = "cut" then 4 else if z = "table" then 4 else 3
/-! ### things of tuples alone stay where tuples do -/
mutual
def noL : PyData → Bool
  | .list _ => false
  | .tuple ds => noLs ds
  | _ => true
def noLs : List PyData → Bool
  | [] => true
  | d :: ds => noL d && noLs ds
end
def KeepT (H H' : Hp) : Prop := ∀ p xs, H p = some (.tup xs) → H' p = some (.tup xs)
mutual
theorem Dat.keepT {H H' : Hp} (k : KeepT H H') : ∀ {d : PyData} {v : V}, noL d = true → Dat H d v → Dat H' d v
  | .none, _, _, h => by unfold Dat at *; exact h
  | .bool _, _, _, h => by unfold Dat at *; exact h
  | .int _, _, _, h => by unfold Dat at *; exact h
  | .str _, _, _, h => by unfold Dat at *; exact h
  | .list ds, _, n, h => by simp [noL] at n
  | .tuple ds, _, n, h => by
    unfold Dat at *
    obtain ⟨p, xs, h1, h2, h3⟩ := h
    exact ⟨p, xs, h1, k _ _ h2, Dats.keepT k (by simpa [noL] using n) h3⟩
  | .dict _, _, _, h => by unfold Dat at h; exact h.elim
theorem Dats.keepT {H H' : Hp} (k : KeepT H H') : ∀ {ds : List PyData} {xs : List V}, noLs ds = true → Dats H ds xs → Dats H' ds xs
  | [], _, _, h => by unfold Dats at *; exact h
  | d :: ds, _, n, h => by
    have n' : noL d = true ∧ noLs ds = true := by simpa [noLs] using n
    unfold Dats at *
    obtain ⟨x, r, h1, h2, h3⟩ := h
    exact ⟨x, r, h1, Dat.keepT k n'.1 h2, Dats.keepT k n'.2 h3⟩
end
theorem KeepT.same {H H' : Hp} (s : Same H H') : KeepT H H' := fun p xs h => s _ _ h
theorem KeepT.trans {H H1 H2 : Hp} (a : KeepT H H1) (b : KeepT H1 H2) : KeepT H H2 := fun p xs h => b _ _ (a _ _ h)
theorem Bg.keepT {l : Addr} {H H' : Hp} (b : Bag H l) (g : Bg l H H') : KeepT H H' := fun p xs h => g.1 p _ (b.neT h) h
theorem noLs_app : ∀ (a b : List PyData), noLs (a ++ b) = (noLs a && noLs b)
  | [], b => by simp [noLs]
  | d :: a, b => by simp [noLs, noLs_app a b, Bool.and_assoc]
theorem noLs_all {ds : List PyData} (h : ∀ d ∈ ds, noL d = true) : noLs ds = true := by
  induction ds with
  | nil => simp [noLs]
  | cons d r ih => simp [noLs, h d List.mem_cons_self, ih fun e he => h e (List.mem_cons_of_mem _ he)]
theorem noLs_ints (ns : List Int) : noLs (ns.map PyData.int) = true := noLs_all fun d hd => by
  obtain ⟨i, _, rfl⟩ := List.mem_map.mp hd
  simp [noL]
theorem pt_truthK {X : Cx} {K : PySem.W.Frag} {a : Expr} {ta : TE} (h : X.K = K) (ha : PE X a ta) (he : ∀ whole, isTrue a X.env whole = (do let v ← whole; standAt a.pos; holding [v] (truthy v))) :
    PT X a (fun σ H Q => ta σ H fun x H' => ∃ k, TruV K x H' k ∧ Q k H') := by subst h; exact pt_truth ha he
end L2

set_option Elab.async false
set_option linter.all false
set_option maxRecDepth 100000
/-! Rows of rows, and runs. -/
namespace L2
open PySem PySem.Spec
theorem pairedSn {α β : Type} {R : α → β → Prop} {xs us : List α} {ys vs : List β} (p : Paired R xs ys) (q : Paired R us vs) : Paired R (xs ++ us) (ys ++ vs) := pairedApp q p
theorem take_get {α : Type} {xs : List α} {i : Nat} {x : α} (h : xs[i]? = some x) : xs.take (i + 1) = xs.take i ++ [x] := by
  obtain ⟨hi, he⟩ := List.getElem?_eq_some_iff.mp h
  rw [List.take_succ_eq_append_getElem hi, he]
end L2

set_option Elab.async false
set_option linter.all false
set_option maxRecDepth 100000
/-! Many runs at once: the lanes of wholes. -/
namespace L2
open PySem PySem.Spec
def Rng (m : Nat) (x : Int) : Prop := 0 ≤ x ∧ x < 2 ^ m
theorem cast_pow (r : Nat) : ((2 : Int) ^ r) = ((2 ^ r : Nat) : Int) := by rw [Int.natCast_pow]; rfl
theorem Rng.nat {m : Nat} {x : Int} (h : Rng m x) : ∃ a : Nat, x = a ∧ a < 2 ^ m := by
  obtain ⟨h0, h1⟩ := h
  obtain ⟨a, rfl⟩ := Int.eq_ofNat_of_zero_le h0
  rw [cast_pow] at h1
  exact ⟨a, rfl, by omega⟩
theorem Rng.of {m a : Nat} (h : a < 2 ^ m) : Rng m (a : Int) := ⟨by omega, by rw [cast_pow]; omega⟩
section
variable {m r : Nat} (hr : r < m)
include hr
end
end L2

set_option Elab.async false
set_option linter.all false
/-! Sums and bits of one word over another. -/
namespace L2
open PySem
theorem xor_sum (a b : Nat) : (a ^^^ b) + 2 * (a &&& b) = a + b := by
  induction a using Nat.strongRecOn generalizing b with
  | _ a ih =>
    by_cases ha : a = 0
    · subst ha; simp
    · have e1 : a ^^^ b = 2 * ((a / 2) ^^^ (b / 2)) + (a ^^^ b) % 2 := by
        have := Nat.div_add_mod (a ^^^ b) 2
        rw [Nat.xor_div_two] at this
        omega
      have e2 : a &&& b = 2 * ((a / 2) &&& (b / 2)) + (a &&& b) % 2 := by
        have := Nat.div_add_mod (a &&& b) 2
        rw [Nat.and_div_two] at this
        omega
      have e3 := ih (a / 2) (by omega) (b / 2)
      have e4 : (a ^^^ b) % 2 + 2 * ((a &&& b) % 2) = a % 2 + b % 2 := by
        have h1 : (a ^^^ b) % 2 = 1 ↔ ¬ (a % 2 = 1 ↔ b % 2 = 1) := Nat.xor_mod_two_eq_one
        have h2 : (a &&& b) % 2 = 1 ↔ a % 2 = 1 ∧ b % 2 = 1 := Nat.and_mod_two_eq_one
        generalize (a ^^^ b) = c at h1
        generalize (a &&& b) = d at h2
        by_cases ha' : a % 2 = 1 <;> by_cases hb' : b % 2 = 1 <;> simp only [ha', hb', iff_true, true_iff, iff_false, not_true, not_false_iff, and_self, and_false, false_and, true_and, and_true, false_iff] at h1 h2 <;> omega
      omega
/-- the bits of two wholes apart -/
theorem xor_nat (a b : Nat) : Builtin.bitXor (a : Int) (b : Int) = ((a ^^^ b : Nat) : Int) := by
  rw [PyProof.Rows.bitXor_and, PyProof.Rows.bitAnd_pp (by omega) (by omega), Int.toNat_natCast, Int.toNat_natCast]
  have h := xor_sum a b
  omega
end L2

set_option Elab.async false
set_option linter.all false
set_option maxRecDepth 100000
/-! zip of two lists, walked by a loop. -/
namespace L2
open PySem PySem.Spec PyProof.Rows
section
variable {X : Cx} {pins : List (Addr × Obj)} {σ : St} {H : Hp} {s : Shared} {h' : Heap}
theorem Inv.turnedL {t' : Nat} {ch : List Addr} (I : Inv X pins σ H s) (k : ∀ b o, b ∉ ch → s.heap.get? b = some o → h'.get? b = some o) (hc : ∀ b ∈ ch, FpOk X pins H b) : Inv X pins σ H { s with heap := h', toks := t' } := by
  have nit : ∀ b u, H b = some u → b ∉ ch := fun b u e z => by have := (hc b z).1; rw [this] at e; cases e
  refine I.step (g' := s.gens) (d' := s.drawn) (ch := ch) (fun b hb => ?_) (fun b o _ _ hn e _ => k b o hn e) (fun b o _ _ hn e _ => ⟨o.slots, k b o hn e⟩) (fun _ _ _ _ n => n)
    (fun b o hn e => ⟨o, k b o hn e⟩) (fun _ _ e => e) (fun _ _ _ e => e) (fun b ps e => ⟨#[], by rw [e]; simp⟩) (fun m hm => ?_) (fun b u e => ?_) I.bare
  · obtain ⟨_, f1, _, f3, f4, f5⟩ := hc b hb
    exact ⟨f3, f1, f4, f5⟩
  · obtain ⟨o, es, ep, ho, r⟩ := hm
    exact ⟨o, es, ep, k _ o (fun z => (hc _ z).2.1 rfl) ho, r⟩
  · refine (I.hok b u e).stay (fun c v hn q => k c v ?_ q) (fun _ q => q) fun _ _ q => q
    rcases hn with z | z
    · rw [z]; exact nit b u e
    · exact nit c _ z
end
def Itz (K : PySem.W.Frag) (a b : Addr) : It :=
  ⟨fun i H => ∃ xs ys x y, SqL K H a xs ∧ SqL K H b ys ∧ xs[i]? = some x ∧ ys[i]? = some y,
   fun i H v H' => ∃ p x y, v = .ref p ∧ H p = none ∧ H' = upd H p (.tup [x, y]) ∧ (∀ xs, SqL K H a xs → xs[i]? = some x) ∧ ∀ ys, SqL K H b ys → ys[i]? = some y,
   fun i H => ∃ xs ys, SqL K H a xs ∧ SqL K H b ys ∧ (xs.length ≤ i ∨ ys.length ≤ i)⟩
theorem turn_zip {P : Program} {w : World} {K : PySem.W.Frag} {elts : List Expr} {kk : Nat} {pos : Pos} (a b z TI TO i1 i2 : Addr) (D : ZipApart z TI TO i1 i2 a b) :
    Turn P w K (.Tuple elts kk pos) (Itz K a b) [z, TI, TO, i1, i2] z (fun i h => IsZip h z TI TO .none ∧ IsPair h TI (.ref i1) (.ref i2) ∧ (∃ c d, IsPair h TO c d) ∧ h.IsListIter i1 a i ∧ h.IsListIter i2 b i) where
  mem := by simp
  obj := fun i h st c hc => by
    obtain ⟨h1, h2, ⟨x, y, h3⟩, ⟨o4, e4, c4, d4⟩, ⟨o5, e5, c5, d5⟩⟩ := st
    have hc' : c = z ∨ c = TI ∨ c = TO ∨ c = i1 ∨ c = i2 := by simpa using hc
    rcases hc' with rfl | rfl | rfl | rfl | rfl
    · exact ⟨_, h1, fun v q => by cases q⟩
    · exact ⟨_, h2, fun v q => by cases q⟩
    · exact ⟨_, h3, fun v q => by cases q⟩
    · exact ⟨o4, e4, fun v q => by rw [d4] at q; cases q⟩
    · exact ⟨o5, e5, fun v q => by rw [d5] at q; cases q⟩
  keep := fun i h h' st k => by
    obtain ⟨h1, h2, ⟨x, y, h3⟩, h4, h5⟩ := st
    exact ⟨k z (by simp) _ h1, k TI (by simp) _ h2, ⟨x, y, k TO (by simp) _ h3⟩, h4.at fun o e => k i1 (by simp) o e, h5.at fun o e => k i2 (by simp) o e⟩
  item := by
    intro X hP hw hK hc i pins s σ H E I hf st hg
    subst hP hw hK
    obtain ⟨xs, ys, x, y, hq1, hq2, hx, hy⟩ := hg
    obtain ⟨its1, rv1, p1, hz1⟩ := I.list hq1
    obtain ⟨its2, rv2, p2, hz2⟩ := I.list hq2
    obtain ⟨u1, hu1, ru1⟩ := rv1.get hx
    obtain ⟨u2, hu2, ru2⟩ := rv2.get hy
    obtain ⟨sz, sTI, ⟨c, d, sTO⟩, s1, s2⟩ := st
    refine wpAny_pyNext_zip_item D sz sTI sTO s1 s2 p1.isList p2.isList (x := u1) (y := u2) (by simpa using hu1) (by simpa using hu2) fun h' b1 b2 b3 b4 b5 b6 hk => ?_
    have lt : ∀ {c o}, s.heap.get? c = some o → c ≠ s.heap.objs.size := fun e => Nat.ne_of_lt (Heap.lt_size e)
    have I0 : Inv X pins σ (upd H s.heap.objs.size (.tup [x, y])) { s with heap := s.heap.push { cls := .type "tuple", data := .seq #[u1, u2] }, toks := s.toks } :=
      I.laid (a := s.heap.objs.size) (o := .tup [x, y]) (t' := s.toks) (fun b u e => Heap.get?_push_of_some _ e) (Nat.le_refl _) ⟨(by show 2 ≤ sizeLine; decide), [u1, u2], .cons ru1 (.cons ru2 .nil), _, Heap.get?_push_size _ rfl, rfl, _, rfl⟩
    have hnone : ∀ c ∈ [z, TI, TO, i1, i2], (upd H s.heap.objs.size (.tup [x, y])) c = none := fun c hc' => by
      have hne : c ≠ s.heap.objs.size := by
        have hc'' : c = z ∨ c = TI ∨ c = TO ∨ c = i1 ∨ c = i2 := by simpa using hc'
        rcases hc'' with rfl | rfl | rfl | rfl | rfl
        · exact lt sz
        · exact lt sTI
        · exact lt sTO
        · obtain ⟨_, e, _⟩ := s1; exact lt e
        · obtain ⟨_, e, _⟩ := s2; exact lt e
      rw [upd_ne hne]
      exact (hf c hc').1
    have hf' : ∀ c ∈ [z, TI, TO, i1, i2], FpOk X pins (upd H s.heap.objs.size (.tup [x, y])) c := fun c hc' => ⟨hnone c hc', (hf c hc').2⟩
    have kk1 : ∀ c o, c ∉ [z, TO, i1, i2] → (s.heap.push { cls := .type "tuple", data := .seq #[u1, u2] }).get? c = some o → h'.get? c = some o := fun c o hn e => by
      rcases Heap.get?_push_cases e with ⟨rfl, rfl⟩ | e'
      · exact b5
      · exact hk c o (fun q => hn (by simp [q])) (fun q => hn (by simp [q])) (fun q => hn (by simp [q])) (fun q => hn (by simp [q])) e'
    have kk2 : ∀ c ∈ [z, TO, i1, i2], FpOk X pins (upd H s.heap.objs.size (.tup [x, y])) c := fun c hc' => hf' c (by
      have hc'' : c = z ∨ c = TO ∨ c = i1 ∨ c = i2 := by simpa using hc'
      rcases hc'' with rfl | rfl | rfl | rfl <;> simp)
    have I1 := I0.turnedL (h' := h') (t' := s.toks) (ch := [z, TO, i1, i2]) kk1 kk2
    refine ⟨_, rfl, wpAny_letOwnedTupleGo_zip b1 fun h2 c1 c2 => ?_⟩
    have I2 := I1.turnedL (h' := h2) (t' := s.toks) (ch := [z]) (fun c o hn e => (c2.2 c (fun q => hn (by simp [q]))).trans e) (fun c hc' => hf' c (by rw [List.mem_singleton.mp hc']; simp))
    refine ⟨.ref s.heap.objs.size, _, I2, rfl, ⟨_, x, y, rfl, I.hok.fresh (Nat.le_refl _), rfl, fun xs' q => by rw [I.list_inj q hq1]; exact hx, fun ys' q => by rw [I.list_inj q hq2]; exact hy⟩, ?_, hnone⟩
    have mv : ∀ c o, c ≠ z → h'.get? c = some o → h2.get? c = some o := fun c o hn e => (c2.2 c hn).trans e
    exact ⟨c1, mv _ _ D.TIz (hk _ _ D.TIz D.TITO D.TIi1 D.TIi2 sTI), ⟨_, _, mv _ _ D.TOz b2⟩, b3.at fun o e => mv _ o D.i1z e, b4.at fun o e => mv _ o D.i2z e⟩
  done := by
    intro X hP hw hK hc i pins s σ H E I hf st hg
    subst hP hw hK
    obtain ⟨xs, ys, hq1, hq2, hx⟩ := hg
    obtain ⟨its1, rv1, p1, hz1⟩ := I.list hq1
    obtain ⟨its2, rv2, p2, hz2⟩ := I.list hq2
    have l1 := rv1.length
    have l2 := rv2.length
    obtain ⟨sz, sTI, ⟨c, d, sTO⟩, s1, s2⟩ := st
    refine wpAny_pyNext_zip_end (I.ok.hd hc) D sz sTI sTO s1 s2 p1.isList p2.isList ?_ fun h' hk => ⟨rfl, I.turnedL (t' := s.toks) (ch := [z, TO, i1, i2]) (fun c o hn e => hk c o (fun q => hn (by simp [q])) (fun q => hn (by simp [q])) (fun q => hn (by simp [q])) (fun q => hn (by simp [q])) e) (fun c hc' => hf c ?_)⟩
    · rcases hx with q | q
      · exact .inl (by simp; omega)
      · exact .inr (by simp; omega)
    · have hc'' : c = z ∨ c = TO ∨ c = i1 ∨ c = i2 := by simpa using hc'
      rcases hc'' with rfl | rfl | rfl | rfl <;> simp
  self := fun _ _ _ _ _ st h => wpAny_pyIter_zip st.1 h
def iZip (K : PySem.W.Frag) (ta : TA) : TI := fun σ H R => ta σ H fun vs H1 => ∃ a b, vs = [.ref a, .ref b] ∧ (∃ xs, SqL K H1 a xs) ∧ (∃ ys, SqL K H1 b ys) ∧ R (Itz K a b) H1
theorem pi_zip {X : Cx} {elts : List Expr} {kk : Nat} {tpos : Pos} {a b : Expr} {ta : TA} {p pos : Pos} (hg : Gl X "zip") (hm : X.mg "zip" = none) (ha : PA X [a, b] ta) (hs : starEach [a, b] X.env = [(false, eval a X.env), (false, eval b X.env)] := by rfl) (hs2 : starEach [b] X.env = [(false, eval b X.env)] := by rfl) :
    PI X (.Tuple elts kk tpos) (.Call (.Name "zip" p) [a, b] [] pos) (iZip X.K ta) := by
  intro pins s σ H R I h
  refine Call_ (ld_blt I hg hm PyProof.Rows.boot_zip (PyProof.Rows.callWith_type1 (thn (ha pos pins s σ H _ I h) fun us s1 ⟨vs, H1, I1, r1, q1⟩ => ?_) (by rw [hs, hs2]) (by rw [hs2]; rfl)))
  obtain ⟨l1, l2, e, ⟨xs, hq1⟩, ⟨ys, hq2⟩, q⟩ := q1
  subst e
  cases r1 with
  | cons r rr =>
    cases rr with
    | cons r' rr =>
      cases rr
      cases r
      cases r'
      obtain ⟨its1, rv1, p1, hz1⟩ := I1.list hq1
      obtain ⟨its2, rv2, p2, hz2⟩ := I1.list hq2
      have hlt1 : @LT.lt Nat _ l1 s1.heap.objs.size := by obtain ⟨o, e, _⟩ := p1.isList; exact Heap.lt_size e
      have hlt2 : @LT.lt Nat _ l2 s1.heap.objs.size := by obtain ⟨o, e, _⟩ := p2.isList; exact Heap.lt_size e
      refine call_zip_2 p1.isList p2.isList fun h' hz hTI hTO hi1 hi2 hsz hk => wpAny_pyIter_zip hz ?_
      have D : ZipApart (s1.heap.objs.size + 4) (s1.heap.objs.size + 2) (s1.heap.objs.size + 3) s1.heap.objs.size (s1.heap.objs.size + 1) l1 l2 := PySem.W.ktu_apart _ _ _ hlt1 hlt2
      refine ⟨_, [s1.heap.objs.size + 4, s1.heap.objs.size + 2, s1.heap.objs.size + 3, s1.heap.objs.size, s1.heap.objs.size + 1], _, _, H1, rfl, I1.kept (t' := s1.toks) hk, turn_zip l1 l2 _ _ _ _ _ D, ⟨hz, hTI, ⟨_, _, hTO⟩, hi1, hi2⟩, fun c hc => ?_, q⟩
      have hc' : c = s1.heap.objs.size + 4 ∨ c = s1.heap.objs.size + 2 ∨ c = s1.heap.objs.size + 3 ∨ c = s1.heap.objs.size ∨ c = s1.heap.objs.size + 1 := by simpa using hc
      have hle : @LE.le Nat _ s1.heap.objs.size c := by
        rcases hc' with rfl | rfl | rfl | rfl | rfl
        · exact Nat.le_add_right _ _
        · exact Nat.le_add_right _ _
        · exact Nat.le_add_right _ _
        · exact Nat.le_refl _
        · exact Nat.le_add_right _ _
      exact I1.fpOk hle (I1.hok.fresh hle)
theorem for_zip {K : PySem.W.Frag} {a b : Addr} {xs ys : List V} {g : TG} {tb : TS} {D : Ends} {σ : St} {H : Hp} (Pv : Nat → St → Hp → Prop) (h0 : Pv 0 σ H) (hl : ∀ i σ H, Pv i σ H → SqL K H a xs ∧ SqL K H b ys) (he : xs.length = ys.length)
    (hs : ∀ i x y p σ H, xs[i]? = some x → ys[i]? = some y → Pv i σ H → H p = none → g (.ref p) σ (upd H p (.tup [x, y])) fun σ2 H2 => tb { D with nx := Pv (i + 1), ct := Pv (i + 1), bk := D.nx } σ2 H2) (hd : ∀ σ H, Pv xs.length σ H → D.nx σ H) :
    ∃ W : Nat → Nat → St → Hp → Prop, (∃ m, W 0 m σ H) ∧ ∀ i m σ H, W i m σ H →
      ((Itz K a b).stop i H ∧ D.nx σ H) ∨ ((Itz K a b).go i H ∧ ∃ N : St → Hp → Prop, (∀ σ' H', N σ' H' → ∃ m', m' < m ∧ W (i + 1) m' σ' H') ∧ ∀ x H', (Itz K a b).yld i H x H' → g x σ H' fun σ2 H2 => tb { D with nx := N, ct := N, bk := D.nx } σ2 H2) := by
  refine ⟨fun i m σ H => m = xs.length - i ∧ i ≤ xs.length ∧ Pv i σ H, ⟨xs.length, by simp, Nat.zero_le _, h0⟩, ?_⟩
  rintro i m σ H ⟨rfl, hi, p⟩
  obtain ⟨q1, q2⟩ := hl i σ H p
  by_cases hlt : i < xs.length
  · have hlt2 : i < ys.length := by omega
    refine .inr ⟨⟨xs, ys, xs[i], ys[i], q1, q2, by simp [hlt], by simp [hlt2]⟩, Pv (i + 1), fun σ' H' p' => ⟨xs.length - (i + 1), by omega, rfl, hlt, p'⟩, fun v H' y => ?_⟩
    obtain ⟨pp, x, y, rfl, hp, rfl, e1, e2⟩ := y
    exact hs i x y pp σ H (e1 xs q1) (e2 ys q2) p hp
  · have e : i = xs.length := by omega
    subst e
    exact .inl ⟨⟨xs, ys, q1, q2, .inl (Nat.le_refl _)⟩, hd σ H p⟩
end L2

set_option Elab.async false
set_option linter.all false
set_option maxRecDepth 100000
/-! dict(d), and two dicts compared. -/
namespace L2
open PySem PySem.Spec PyProof.Rows
variable {X : Cx}
theorem kv_hits {A : Around} {s : Shared} {kb : List (Key × Value)} {kvs : List (Key × V)} (relb : KV kvs kb) (hv : ∀ kv ∈ kvs, ∃ i, kv.2 = V.int i) (hk : ∀ kv ∈ kvs, valV kvs kv.1 = some kv.2) :
    ∀ {kvs' : List (Key × V)} {ka : List (Key × Value)}, (∀ kv ∈ kvs', kv ∈ kvs) → Paired (fun (p : Key × V) (q : Key × Value) => p.1 = q.1 ∧ RelV p.2 q.2) kvs' ka → PySem.W.KeqHits A s kb ka true := by
  intro kvs' ka hs r
  induction r with
  | nil => exact .nil
  | @cons p q l1 l2 hpq hr ih =>
    obtain ⟨k, v⟩ := p
    obtain ⟨k', u⟩ := q
    obtain ⟨e1, e2⟩ := hpq
    have e1' : k = k' := e1
    subst e1'
    have hm := hs (k, v) List.mem_cons_self
    obtain ⟨i, hi⟩ := hv _ hm
    have hi' : v = V.int i := hi
    subst hi'
    have h1 := relb.val k
    rw [hk _ hm] at h1
    cases hy : valueAt kb k with
    | none => rw [hy] at h1; exact False.elim h1
    | some y =>
      rw [hy] at h1
      have he := eqAt_V (A := A) (s := s) (y := .int i) (x := .int i) e2 h1 rfl rfl
      have ht : eqV (V.int i) (V.int i) = true := by simp [eqV]
      rw [ht] at he
      have := PySem.W.KeqHits.hit hy he (ih fun kv hkv => hs kv (List.mem_cons_of_mem _ hkv))
      exact this
end L2
namespace L2
open PySem PySem.Spec PyProof.Rows
/-- t + u, either may be empty -/
def rCatE : R2 := fun x y H Q => ∃ a b xs ys, x = .ref a ∧ y = .ref b ∧ H a = some (.tup xs) ∧ H b = some (.tup ys) ∧ xs.length + ys.length ≤ sizeLine ∧ ∀ p H', Same H H' → H' p = some (.tup (xs ++ ys)) → Q (.ref p) H'
theorem op_catE {X : Cx} : OpR X (binaryOp .Add) rCatE := by
  intro pins s σ H x y v u Q I rx ry h
  obtain ⟨a, b, xs, ys, rfl, rfl, ha, hb, hz, q⟩ := h
  by_cases he : xs = []
  · subst he
    cases rx
    cases ry
    obtain ⟨its, r1, p1, _⟩ := I.tuple (SqT.of ha)
    obtain ⟨its2, r2, p2, _⟩ := I.tuple (SqT.of hb)
    cases r1
    obtain ⟨⟨cls, dd, data, sl⟩, ho, hc, n, hd⟩ := id p1
    obtain ⟨⟨cls2, dd2, data2, sl2⟩, ho2, hc2, n2, hd2⟩ := id p2
    simp only at hc hd hc2 hd2
    subst hc hd hc2 hd2
    exact concat_meets ⟨_, ho, rfl⟩ ⟨_, ho2, rfl⟩ noFill_tuple_add seq_tuple_add PySem.F.slot_tuple_add PySem.F.entry_tuple_add (PySem.F.args_tuple_add_2 _ _)
      (tuple_addW0 a b _ _ n n2 dd dd2 sl sl2 (by simp)) ⟨ho, ho2, ⟨.ref b, H, I, rfl, q b H (Same.refl H) hb⟩⟩
  · exact op_catT pins s σ H _ _ v u Q I rx ry ⟨a, b, xs, ys, rfl, rfl, SqT.of ha, SqT.of hb, he, hz, fun e => q a H (Same.refl H) (by rw [e, List.append_nil]; exact ha), fun _ p hp => q p _ (same_new hp _) upd_same⟩
end L2

set_option Elab.async false
set_option linter.all false
set_option maxRecDepth 100000
/-! Widths of sayings. -/
namespace L2
open PySem
/-- the dict of widths tells kv -/
def KW (kvs : List (Key × V)) (kv : Str → Option Int) : Prop := (∀ x, valV kvs (.inr x) = (kv x).map V.int) ∧ ∀ x w, kv x = some w → 1 ≤ w ∧ w ≤ 8
end L2

set_option Elab.async false
set_option linter.all false
set_option maxRecDepth 100000
/-! Sayings of any thing. -/
namespace L2
open PySem
end L2

set_option Elab.async false
set_option linter.all false
set_option maxRecDepth 100000
namespace L2
open PySem PySem.Spec PyProof.Rows
end L2
namespace HT
open PySem PyProof.Rows
section
variable {prog : Program} {w : World} {A : Around} {s : Shared} {E : Value → Shared → Prop}
theorem getItem_tuple_whole {t sl : Addr} {items : Array Value} {vl vu : Value} {lo hi : Option Int} {Q : Value → Shared → Prop} (ht : IsTup s.heap t items) (hs : s.heap.IsSliceOf sl vl vu .none) (pl : IsPart vl lo) (pu : IsPart vu hi)
    (hw : sIx items.size 0 lo = 0 ∧ sIx items.size items.size hi = items.size) (h : Q (.ref t) s) : wpAny (model prog w) A (getItem (.ref t) (.ref sl)) Q E s := by
  obtain ⟨os, hos, hcs, hds⟩ := id hs
  have hTs : s.TypeIs (.ref sl) "slice" := ⟨os, hos, hcs⟩
  unfold getItem
  try with_reducible refine wpAny_holding ?_
  first | refine wpAny_bind (wpAny_pure ?_) | skip
  refine wpAny_bind (wpAny_sequenceKey ht.typeIs (by decide) ?_)
  refine wpAny_bind (wpAny_callSpecial?_slot (name := Str.ofString "__getitem__") ht.typeIs PyProof.Rows.slot_tuple_getitem
    (wpAny_call_entry PyProof.Rows.slot_tuple_getitem ht.typeIs entry_tuple_getitem ?_ (args_tuple_getitem _ _)))
  show wpAny _ _ (Builtin.Tuple.tupleItemsOf (.ref t) >>= _) _ _ s
  refine wpAny_bind (tupleItemsOf_ ht ?_)
  refine wpAny_bind (wpAny_typeOf hTs ?_)
  rw [if_pos (by decide)]
  refine wpAny_bind (sliceApplied_gen hs pl pu ?_)
  have hyes : ((((sIx items.size 0 lo : Nat) : Int) == 0 && (1 : Int) == 1 && (sIx items.size items.size hi - sIx items.size 0 lo) == items.size) = true) := by
    rw [hw.1, hw.2]
    simp
  show wpAny _ _ (if (((sIx items.size 0 lo : Nat) : Int) == 0 && (1 : Int) == 1 && (sIx items.size items.size hi - sIx items.size 0 lo) == items.size) = true then _ else _) _ _ s
  rw [if_pos hyes]
  refine wpAny_bind (m := Builtin.Tuple.tupleIsExact _) (wpAny_bind (wpAny_typeOf ht.typeIs (wpAny_pure ?_)))
  rw [if_pos (by decide)]
  exact wpAny_bind (wpAny_rule (wpAny_pure ⟨_, rfl, wpAny_pure h⟩))
end
end HT
namespace L2
open PySem PySem.Spec PyProof.Rows
def rSlE : V → Option Int → Option Int → Hp → VK → Prop := fun x lo hi H Q => ∃ a xs, x = .ref a ∧ H a = some (.tup xs) ∧ ∀ p H', Same H H' → H' p = some (.tup (cutV xs lo hi)) → Q (.ref p) H'
theorem sl_tupE {X : Cx} : SlR X rSlE := by
  intro pins s σ H x v vl vu lo hi sl Q I rx hs pl pu h
  obtain ⟨a, xs, rfl, hx, q⟩ := h
  by_cases hw : HT.sIx xs.length 0 lo = 0 ∧ HT.sIx xs.length xs.length hi = xs.length
  · cases rx
    obtain ⟨its, r, ht, hz⟩ := I.tuple (SqT.of hx)
    have hlen : its.toArray.size = xs.length := by rw [List.size_toArray]; exact r.length.symm
    refine ⟨"tuple", _, PyProof.Rows.slot_tuple_getitem.lookup, ht.typeIs, ?_⟩
    refine HT.getItem_tuple_whole ht hs pl pu (by rw [hlen]; exact hw) ?_
    refine ⟨.ref a, H, I, rfl, q a H (Same.refl H) ?_⟩
    have : cutV xs lo hi = xs := by
      unfold cutV
      rw [hw.1, hw.2]
      simp
    rw [this]
    exact hx
  · exact sl_tup pins s σ H _ v vl vu lo hi sl Q I rx hs pl pu ⟨a, xs, rfl, SqT.of hx, hw, fun p hp => q p _ (same_new hp _) upd_same⟩
end L2

namespace L2
open PySem PySem.Spec PyProof.Rows
/-! ### a display of things that are written out, at once -/
end L2

set_option Elab.async false
set_option linter.all false
/-! Rows of bits, the lowest one first. -/
namespace L2
def bt (X i : Nat) : Nat := X / 2 ^ i % 2
def btn (w X : Nat) : List Int := (List.range w).map fun i => ((bt X i : Nat) : Int)
theorem btn_len {w X : Nat} : (btn w X).length = w := by unfold btn; simp
theorem btn_get {w X i : Nat} (h : i < w) : (btn w X)[i]? = some ((bt X i : Nat) : Int) := by
  unfold btn
  rw [List.getElem?_map, List.getElem?_range h]
  rfl
theorem btn_ext {w X : Nat} {ys : List Int} (h1 : ys.length = w) (h2 : ∀ i, i < w → ys[i]? = some ((bt X i : Nat) : Int)) : ys = btn w X := by
  apply List.ext_getElem?
  intro i
  by_cases h : i < w
  · rw [h2 i h, btn_get h]
  · rw [List.getElem?_eq_none (by omega), List.getElem?_eq_none (by rw [btn_len]; omega)]
theorem bt_lt (X i : Nat) : bt X i < 2 := Nat.mod_lt _ (by decide)
theorem bt_test (X i : Nat) : bt X i = (X.testBit i).toNat := by
  unfold bt
  rw [Nat.testBit_eq_decide_div_mod_eq]
  have h := Nat.mod_lt (X / 2 ^ i) (show 0 < 2 by decide)
  generalize X / 2 ^ i % 2 = y at h
  match y, h with
  | 0, _ => rfl
  | 1, _ => rfl
theorem bt_and (X Y i : Nat) : ((bt (X &&& Y) i : Nat) : Int) = (bt X i : Int) * (bt Y i : Int) := by
  rw [bt_test, bt_test, bt_test, Nat.testBit_and]
  cases X.testBit i <;> cases Y.testBit i <;> rfl
theorem bt_or (X Y i : Nat) : bt (X ||| Y) i = if bt Y i > bt X i then bt Y i else bt X i := by
  rw [bt_test, bt_test, bt_test, Nat.testBit_or]
  cases X.testBit i <;> cases Y.testBit i <;> rfl
theorem bt_xor (X Y i : Nat) : bt (X ^^^ Y) i = if bt X i = bt Y i then 0 else 1 := by
  rw [bt_test, bt_test, bt_test, Nat.testBit_xor]
  cases X.testBit i <;> cases Y.testBit i <;> rfl
theorem bt_not {w X i : Nat} (h : X < 2 ^ w) (hi : i < w) : bt (2 ^ w - (X + 1)) i = 1 - bt X i := by
  rw [bt_test, bt_test, Nat.testBit_two_pow_sub_succ h, decide_eq_true hi]
  cases X.testBit i <;> rfl
/-- sums by carrying -/
def cy (X Y c i : Nat) : Nat := (X % 2 ^ i + Y % 2 ^ i + c) / 2 ^ i
theorem cy_zero (X Y c : Nat) : cy X Y c 0 = c := by unfold cy; simp [Nat.mod_one]
theorem mod_succ (X i : Nat) : X % 2 ^ (i + 1) = X % 2 ^ i + 2 ^ i * bt X i := by
  unfold bt
  rw [Nat.pow_succ, Nat.mod_mul]
theorem cy_step (X Y c i : Nat) : cy X Y c (i + 1) = (bt X i + bt Y i + cy X Y c i) / 2 := by
  unfold cy
  rw [mod_succ, mod_succ, Nat.pow_succ, ← Nat.div_div_eq_div_mul]
  have hp : 0 < 2 ^ i := Nat.pow_pos (by decide)
  generalize 2 ^ i = p at hp
  congr 1
  have : X % p + p * bt X i + (Y % p + p * bt Y i) + c = (X % p + Y % p + c) + p * (bt X i + bt Y i) := by
    rw [Nat.mul_add]; omega
  rw [this, Nat.add_mul_div_left _ _ hp]
  omega
theorem bt_sum (X Y c i : Nat) : bt (X + Y + c) i = (bt X i + bt Y i + cy X Y c i) % 2 := by
  unfold bt cy
  have hp : 0 < 2 ^ i := Nat.pow_pos (by decide)
  generalize 2 ^ i = p at hp
  have h1 := Nat.div_add_mod X p
  have h2 := Nat.div_add_mod Y p
  have h3 : X + Y + c = (X % p + Y % p + c) + p * (X / p + Y / p) := by rw [Nat.mul_add]; omega
  rw [h3, Nat.add_mul_div_left _ _ hp]
  omega
theorem bt_mod {w X i : Nat} (hi : i < w) : bt (X % 2 ^ w) i = bt X i := by
  rw [bt_test, bt_test, Nat.testBit_mod_two_pow, decide_eq_true hi]
  rfl
theorem bt_big {w X i : Nat} (h : X < 2 ^ w) (hi : w ≤ i) : bt X i = 0 := by
  rw [bt_test, Nat.testBit_lt_two_pow (Nat.lt_of_lt_of_le h (Nat.pow_le_pow_right (by decide) hi))]
  rfl
theorem bt_down (X k i : Nat) : bt (X / 2 ^ k) i = bt X (k + i) := by
  unfold bt
  rw [Nat.div_div_eq_div_mul, ← Nat.pow_add]
theorem bt_up (X k i : Nat) : bt (X * 2 ^ k) i = if i < k then 0 else bt X (i - k) := by
  unfold bt
  by_cases h : i < k
  · rw [if_pos h]
    have e : 2 ^ k = 2 ^ i * (2 * 2 ^ (k - i - 1)) := by
      rw [← Nat.mul_assoc, ← Nat.pow_succ, ← Nat.pow_add]
      congr 1
      omega
    rw [e, ← Nat.mul_assoc, Nat.mul_comm X, Nat.mul_assoc, Nat.mul_div_cancel_left _ (Nat.pow_pos (by decide))]
    rw [Nat.mul_left_comm]
    exact Nat.mul_mod_right _ _
  · rw [if_neg h]
    have e : 2 ^ i = 2 ^ k * 2 ^ (i - k) := by rw [← Nat.pow_add]; congr 1; omega
    rw [e, ← Nat.div_div_eq_div_mul, Nat.mul_div_cancel _ (Nat.pow_pos (by decide))]
theorem bt_join {a X Y i : Nat} (h : X < 2 ^ a) : bt (X + Y * 2 ^ a) i = if i < a then bt X i else bt Y (i - a) := by
  by_cases hi : i < a
  · rw [if_pos hi, ← bt_mod hi, Nat.add_mul_mod_self_right, Nat.mod_eq_of_lt h]
  · rw [if_neg hi]
    have e : bt (X + Y * 2 ^ a) i = bt ((X + Y * 2 ^ a) / 2 ^ a) (i - a) := by rw [bt_down]; congr 1; omega
    rw [e, Nat.add_mul_div_right _ _ (Nat.pow_pos (by decide)), Nat.div_eq_of_lt h, Nat.zero_add]
/-! the rows -/
theorem row_cut {a X f w : Nat} (h : f + w ≤ a) : ((btn a X).drop f).take w = btn w (X / 2 ^ f % 2 ^ w) := by
  refine btn_ext ?_ fun i hi => ?_
  · rw [List.length_take, List.length_drop, btn_len]; omega
  · rw [List.getElem?_take_of_lt hi, List.getElem?_drop, btn_get (by omega), bt_mod hi, bt_down]
theorem row_down {a X k : Nat} (h : X < 2 ^ a) : ((btn a X ++ List.replicate k (0 : Int)).drop k).take a = btn a (X / 2 ^ k) := by
  refine btn_ext ?_ fun i hi => ?_
  · rw [List.length_take, List.length_drop, List.length_append, btn_len, List.length_replicate]; omega
  · rw [List.getElem?_take_of_lt hi, List.getElem?_drop, bt_down]
    by_cases h2 : k + i < a
    · rw [List.getElem?_append_left (by rw [btn_len]; exact h2), btn_get h2]
    · rw [List.getElem?_append_right (by rw [btn_len]; omega), btn_len, List.getElem?_replicate, if_pos (by omega), bt_big h (by omega)]
      rfl
theorem row_up {a X k : Nat} : (List.replicate k (0 : Int) ++ btn a X).take a = btn a (X * 2 ^ k % 2 ^ a) := by
  refine btn_ext ?_ fun i hi => ?_
  · rw [List.length_take, List.length_append, btn_len, List.length_replicate]; omega
  · rw [List.getElem?_take_of_lt hi, bt_mod hi, bt_up]
    by_cases h2 : i < k
    · rw [if_pos h2, List.getElem?_append_left (by rw [List.length_replicate]; exact h2), List.getElem?_replicate, if_pos h2]
      rfl
    · rw [if_neg h2, List.getElem?_append_right (by rw [List.length_replicate]; omega), List.length_replicate, btn_get (by omega)]
theorem row_join {a b X Y : Nat} (h : X < 2 ^ a) : btn a X ++ btn b Y = btn (a + b) (X + Y * 2 ^ a) := by
  refine btn_ext ?_ fun i hi => ?_
  · rw [List.length_append, btn_len, btn_len]
  · rw [bt_join h]
    by_cases h2 : i < a
    · rw [if_pos h2, List.getElem?_append_left (by rw [btn_len]; exact h2), btn_get h2]
    · rw [if_neg h2, List.getElem?_append_right (by rw [btn_len]; omega), btn_len, btn_get (by omega)]
theorem row_not {w X : Nat} (h : X < 2 ^ w) : (btn w X).map (fun b => 1 - b) = btn w (2 ^ w - (X + 1)) := by
  refine btn_ext ?_ fun i hi => ?_
  · rw [List.length_map, btn_len]
  · rw [List.getElem?_map, btn_get hi, bt_not h hi]
    have := bt_lt X i
    simp only [Option.map_some, Option.some.injEq]
    omega
theorem row_inj {w X Y : Nat} (hx : X < 2 ^ w) (hy : Y < 2 ^ w) : btn w X = btn w Y ↔ X = Y := by
  refine ⟨fun h => ?_, fun h => by rw [h]⟩
  refine Nat.eq_of_testBit_eq fun i => ?_
  have : bt X i = bt Y i := by
    by_cases hi : i < w
    · have h1 := btn_get (X := X) hi
      rw [h, btn_get hi] at h1
      have := Option.some.inj h1
      omega
    · rw [bt_big hx (by omega), bt_big hy (by omega)]
  rw [bt_test, bt_test] at this
  cases h1 : X.testBit i <;> cases h2 : Y.testBit i <;> rw [h1, h2] at this <;> first | rfl | cases this
/-- the worth of a row -/
theorem row_sum (w X : Nat) : ((List.range w).map fun i => ((bt X i : Nat) : Int) * 2 ^ i).sum = ((X % 2 ^ w : Nat) : Int) := by
  induction w with
  | zero => simp [Nat.mod_one]
  | succ w ih =>
    rw [List.range_succ, List.map_append, List.sum_append, ih, mod_succ]
    simp only [List.map_cons, List.map_nil, List.sum_cons, List.sum_nil, Int.add_zero, Int.natCast_add, Int.natCast_mul, Int.natCast_pow]
    rw [Int.mul_comm]
    rfl
/-- the rows in order, from the highest bit down -/
def lexB : List Int → List Int → Bool
  | [], [] => false
  | [], _ :: _ => true
  | _ :: _, [] => false
  | a :: r, b :: t => if a = b then lexB r t else decide (a < b)
theorem btn_succ (w X : Nat) : (btn (w + 1) X).reverse = ((bt X w : Nat) : Int) :: (btn w X).reverse := by
  unfold btn
  rw [List.range_succ, List.map_append, List.reverse_append]
  rfl
theorem lex_row (w X Y : Nat) : lexB (btn w X).reverse (btn w Y).reverse = decide (X % 2 ^ w < Y % 2 ^ w) := by
  induction w with
  | zero =>
    have e : ∀ Z, (btn 0 Z).reverse = [] := fun _ => rfl
    rw [e, e, decide_eq_false (by rw [Nat.pow_zero, Nat.mod_one, Nat.mod_one]; exact Nat.lt_irrefl _)]
    rfl
  | succ w ih =>
    rw [btn_succ, btn_succ]
    show (if ((bt X w : Nat) : Int) = ((bt Y w : Nat) : Int) then lexB (btn w X).reverse (btn w Y).reverse else decide (((bt X w : Nat) : Int) < ((bt Y w : Nat) : Int))) = _
    rw [ih, mod_succ, mod_succ]
    have hx := bt_lt X w
    have hy := bt_lt Y w
    have hp : 0 < 2 ^ w := Nat.pow_pos (by decide)
    have h1 := Nat.mod_lt X hp
    have h2 := Nat.mod_lt Y hp
    generalize X % 2 ^ w = x at h1
    generalize Y % 2 ^ w = y at h2
    generalize 2 ^ w = p at hp h1 h2
    match hbx : bt X w, hx, hby : bt Y w, hy with
    | 0, _, 0, _ => simp
    | 1, _, 1, _ => simp
    | 0, _, 1, _ => simp; omega
    | 1, _, 0, _ => simp; omega
end L2
namespace L2
theorem or_sum (a b : Nat) : (a ||| b) + (a &&& b) = a + b := by
  induction a using Nat.strongRecOn generalizing b with
  | _ a ih =>
    by_cases ha : a = 0
    · subst ha; simp
    · have e1 : a ||| b = 2 * ((a / 2) ||| (b / 2)) + (a ||| b) % 2 := by
        have := Nat.div_add_mod (a ||| b) 2
        rw [Nat.or_div_two] at this
        omega
      have e2 : a &&& b = 2 * ((a / 2) &&& (b / 2)) + (a &&& b) % 2 := by
        have := Nat.div_add_mod (a &&& b) 2
        rw [Nat.and_div_two] at this
        omega
      have e3 := ih (a / 2) (by omega) (b / 2)
      have e4 : (a ||| b) % 2 + (a &&& b) % 2 = a % 2 + b % 2 := by
        have h1 : (a ||| b) % 2 = 1 ↔ a % 2 = 1 ∨ b % 2 = 1 := Nat.or_mod_two_eq_one
        have h2 : (a &&& b) % 2 = 1 ↔ a % 2 = 1 ∧ b % 2 = 1 := Nat.and_mod_two_eq_one
        generalize (a ||| b) = c at h1
        generalize (a &&& b) = d at h2
        by_cases ha' : a % 2 = 1 <;> by_cases hb' : b % 2 = 1 <;> simp only [ha', hb', or_true, true_or, or_self, iff_true, true_iff, iff_false, and_self, and_false, false_and, true_and, and_true, false_iff] at h1 h2 <;> omega
      omega
theorem btn_mod (w X : Nat) : btn w (X % 2 ^ w) = btn w X := by
  unfold btn
  exact List.map_congr_left fun i hi => by rw [bt_mod (List.mem_range.mp hi)]
end L2

set_option Elab.async false
set_option linter.all false
set_option maxRecDepth 100000
/-! A dict that stays as it is, walked; lists of dicts compared; sums of lists, lists turned round, lists in order. -/
namespace L2
open PySem PySem.Spec PyProof.Rows
section
variable {X : Cx} {pins : List (Addr × Obj)} {σ : St} {H : Hp} {s : Shared}
/-- from here on the dict stays as it is -/
theorem Inv.frz (I : Inv X pins σ H s) {a : Addr} {kvs : List (Key × V)} (e : H a = some (.dK kvs)) : ∃ o, Inv X pins σ (upd H a (.frz o (.dK kvs))) s := by
  obtain ⟨z, y, vs, r, d⟩ := dk_of I.hok e
  obtain ⟨o, es, ep, ho, c⟩ := id d
  have mu : Mut (H a) := by rw [e]; trivial
  have new : ObjOk X.prog X.w (upd H a (.frz o (.dK kvs))) s.heap a (.frz o (.dK kvs)) := ⟨ho, z, y, vs, r, d⟩
  exact ⟨o, I.un (t' := s.toks) (Un.write mu (.inl rfl) (fun b u _ q => q) ⟨o, ho⟩) (HOk.write I.hok mu (.inl rfl) (fun b u _ q => q) ⟨o, ho⟩ new)⟩
def sFrz (t : TS) : TS := fun D σ H => ∃ a kvs, H a = some (.dK kvs) ∧ ∀ o, t D σ (upd H a (.frz o (.dK kvs)))
theorem ps_frz {st : Stmt} {t : TS} (h : PS X st t) : PS X st (sFrz t) := by
  intro pins s σ H D I q
  obtain ⟨a, kvs, e, q⟩ := q
  obtain ⟨o, I'⟩ := I.frz e
  exact h pins s σ _ D I' (q o)
end
theorem Rd.same {H H' : Hp} {a : Addr} {u : HO} (r : Rd H a u) (s : Same H H') : Rd H' a u := by
  rcases r with r | ⟨o, r⟩
  · exact .inl (s _ _ r)
  · exact .inr ⟨o, s _ _ r⟩
theorem dgetR {H : Hp} {a : Addr} {kvs : List (Key × V)} {x : Str} {v : V} (h : Rd H a (.dK kvs)) (e : valV kvs (.inr x) = some v) : DGet H a (.str x) (some v) :=
  .inl ⟨kvs, .inr x, h, rfl, e.symm⟩
theorem kV_of_is {k : Key} {v : Value} (h : keyIs k v = true) : RelV (kV k) v := by
  rcases keyIs_shape h with ⟨i, t, rfl, rfl⟩ | ⟨x, t, rfl, rfl⟩
  · exact ⟨t, rfl⟩
  · exact ⟨t, rfl⟩
/-- the keys of a dict that stays, in their order -/
def Itd (a : Addr) (o : Obj) (kvs : List (Key × V)) : It :=
  ⟨fun i H => H a = some (.frz o (.dK kvs)) ∧ i < kvs.length, fun i H x H' => H' = H ∧ ∃ kv, kvs[i]? = some kv ∧ x = kV kv.1, fun i H => H a = some (.frz o (.dK kvs)) ∧ kvs.length ≤ i⟩
theorem turn_dict {P : Program} {w : World} {K : PySem.W.Frag} {tg : Expr} (a it : Addr) {o : Obj} {kvs : List (Key × V)} {es : Array DictEntry} {ep : Nat} (hd : o.data = .dict es ep) :
    Turn P w K tg (Itd a o kvs) [it] it (fun i h => h.IsKeyIter it a i kvs.length ep) where
  mem := by simp
  obj := fun i h st b hb => by
    obtain ⟨ob, ho, hc, hd'⟩ := st
    have e : b = it := by simpa using hb
    subst e
    exact ⟨ob, ho, fun v q => by rw [hd'] at q; cases q⟩
  keep := fun i h h' st k => by
    obtain ⟨ob, ho, r⟩ := st
    exact ⟨ob, k it (by simp) _ ho, r⟩
  item := by
    intro X hP hw hK hc i pins s σ H E I hf st hg
    subst hP hw hK
    obtain ⟨f0, f1, f2, f3, f4, f5⟩ := hf it (by simp)
    obtain ⟨hH, hi⟩ := hg
    obtain ⟨ho, z, y, vs, r, o', es', ep', ho', hx, hd', hk, hp, hn⟩ := (show ObjOk X.prog X.w H s.heap a (.frz o (.dK kvs)) from I.hok a _ hH)
    rw [ho] at ho'
    cases ho'
    rw [hd] at hd'
    cases hd'
    have hlen := r.length
    have DA : s.heap.DictAt (mixKind X.prog X.w) a vs ep := ⟨o, es, ho, hx, hd, hk, hp, hn⟩
    rw [hlen] at st hi
    have hvi : vs[i]? = some (vs[i].1, vs[i].2) := by rw [List.getElem?_eq_getElem hi]
    have hkey : ∃ kv, kvs[i]? = some kv ∧ kv.1 = vs[i].1 := by
      have hk2 := r.keys
      have h1 : (kvs.map (·.1))[i]? = (vs.map (·.1))[i]? := by rw [hk2]
      rw [List.getElem?_map, List.getElem?_map, List.getElem?_eq_getElem hi, List.getElem?_eq_getElem (by omega)] at h1
      exact ⟨kvs[i], List.getElem?_eq_getElem (by omega), Option.some.inj h1⟩
    obtain ⟨kv, hkv, hk1⟩ := hkey
    refine wpAny_pyNext_dict_item st DA hvi fun key h' his st' sb => ?_
    have I1 : Inv X pins σ H { s with heap := h', toks := s.toks } := I.turned (fun b ob hb e => (sb.2 b hb).trans e) f0 f1 f3 f4 f5
    obtain ⟨ob, hob, hcl, hdt⟩ := id st'
    rw [← hlen] at st'
    exact ⟨_, rfl, go_of (s := { s with heap := h', toks := s.toks }) (n := "dict_keyiterator") hob hcl hdt (by decide) ⟨kV kv.1, H, I1, by rw [hk1]; exact kV_of_is his, ⟨rfl, kv, hkv, rfl⟩, st', fun b hb => (hf b hb).1⟩⟩
  done := by
    intro X hP hw hK hc i pins s σ H E I hf st hg
    subst hP hw hK
    obtain ⟨f0, f1, f2, f3, f4, f5⟩ := hf it (by simp)
    obtain ⟨hH, hi⟩ := hg
    obtain ⟨ho, z, y, vs, r, o', es', ep', ho', hx, hd', hk, hp, hn⟩ := (show ObjOk X.prog X.w H s.heap a (.frz o (.dK kvs)) from I.hok a _ hH)
    rw [ho] at ho'
    cases ho'
    rw [hd] at hd'
    cases hd'
    have hlen := r.length
    have DA : s.heap.DictAt (mixKind X.prog X.w) a vs ep := ⟨o, es, ho, hx, hd, hk, hp, hn⟩
    rw [hlen] at st hi
    exact wpAny_pyNext_dict_end (I.ok.hd hc) st DA (List.getElem?_eq_none hi) fun h' eb => ⟨rfl, I.turned (t' := s.toks) (fun b o hb e => eb b o hb e) f0 f1 f3 f4 f5⟩
  self := fun _ _ _ _ _ st h => wpAny_pyIter_keyiter st h
def iDict (tl : TE) : TI := fun σ H R => tl σ H fun x H1 => ∃ a o kvs, x = .ref a ∧ H1 a = some (.frz o (.dK kvs)) ∧ R (Itd a o kvs) H1
theorem pi_dict {X : Cx} {tg : Expr} {l : Expr} {tl : TE} (hl : PE X l tl) : PI X tg l (iDict tl) := by
  intro pins s σ H R I h
  refine thn (hl pins s σ H _ I h) fun v s1 ⟨x, H1, I1, r1, q1⟩ => ?_
  obtain ⟨a, o, kvs, e, hH, q⟩ := q1
  subst e
  cases r1
  obtain ⟨ho, z, y, vs, r, o', es, ep, ho', hx, hd, hk, hp, hn⟩ := (show ObjOk X.prog X.w H1 s1.heap a (.frz o (.dK kvs)) from I1.hok a _ hH)
  rw [ho] at ho'
  cases ho'
  have hlen := r.length
  refine wpAny_pyIter_dict (knd := mixKind X.prog X.w) y ⟨o, es, ho, hx, hd, hk, hp, hn⟩ ?_
  refine ⟨s1.heap.objs.size, [s1.heap.objs.size], _, _, H1, rfl, I1.kept (t' := s1.toks) fun b o e => Heap.get?_push_of_some _ e, turn_dict a _ (kvs := kvs) hd, ⟨_, Heap.get?_push_size _ rfl, rfl, by rw [hlen]; rfl⟩, fun b hb => ?_, q⟩
  have e : b = s1.heap.objs.size := by simpa using hb
  subst e
  exact I1.fpOk (Nat.le_refl _) (I1.hok.fresh (Nat.le_refl _))
theorem for_dict {a : Addr} {o : Obj} {kvs : List (Key × V)} {g : TG} {tb : TS} {D : Ends} {σ : St} {H : Hp} (Pv : Nat → St → Hp → Prop) (h0 : Pv 0 σ H) (hl : ∀ i σ H, i ≤ kvs.length → Pv i σ H → H a = some (.frz o (.dK kvs)))
    (hs : ∀ i kv σ H, kvs[i]? = some kv → Pv i σ H → g (kV kv.1) σ H fun σ2 H2 => tb { D with nx := Pv (i + 1), ct := Pv (i + 1), bk := D.nx } σ2 H2) (hd : ∀ σ H, Pv kvs.length σ H → D.nx σ H) :
    ∃ W : Nat → Nat → St → Hp → Prop, (∃ m, W 0 m σ H) ∧ ∀ i m σ H, W i m σ H →
      ((Itd a o kvs).stop i H ∧ D.nx σ H) ∨ ((Itd a o kvs).go i H ∧ ∃ N : St → Hp → Prop, (∀ σ' H', N σ' H' → ∃ m', m' < m ∧ W (i + 1) m' σ' H') ∧ ∀ x H', (Itd a o kvs).yld i H x H' → g x σ H' fun σ2 H2 => tb { D with nx := N, ct := N, bk := D.nx } σ2 H2) := by
  refine ⟨fun i m σ H => m = kvs.length - i ∧ i ≤ kvs.length ∧ Pv i σ H, ⟨kvs.length, by simp, Nat.zero_le _, h0⟩, ?_⟩
  rintro i m σ H ⟨rfl, hi, p⟩
  have q := hl i σ H hi p
  by_cases hlt : i < kvs.length
  · refine .inr ⟨⟨q, hlt⟩, Pv (i + 1), fun σ' H' p' => ⟨kvs.length - (i + 1), by omega, rfl, hlt, p'⟩, fun x H' y => ?_⟩
    obtain ⟨e, kv, hkv, rfl⟩ := y
    subst e
    exact hs i kv σ _ hkv p
  · have e : i = kvs.length := by omega
    subst e
    exact .inl ⟨⟨q, Nat.le_refl _⟩, hd σ H p⟩
theorem comp_dict {S : V → St} {tt : TT} {te : TE} {H : Hp} {Fin : List V → Hp → Prop} {a : Addr} {o : Obj} {kvs : List (Key × V)} (Pv : Nat → List V → Hp → Prop) (h0 : Pv 0 [] H) (hl : ∀ i ys H, i ≤ kvs.length → Pv i ys H → H a = some (.frz o (.dK kvs))) (hz : ∀ i ys H, i < kvs.length → Pv i ys H → ys.length < sizeLine)
    (hs : ∀ i kv ys H, kvs[i]? = some kv → Pv i ys H → tt (S (kV kv.1)) H fun b H2 => if b = true then te (S (kV kv.1)) H2 fun y H3 => Pv (i + 1) (ys ++ [y]) H3 else Pv (i + 1) ys H2)
    (hd : ∀ ys H, Pv kvs.length ys H → Fin ys H) : CompW (Itd a o kvs) S tt te H Fin := by
  refine ⟨fun i m ys H => m = kvs.length - i ∧ i ≤ kvs.length ∧ Pv i ys H, ⟨kvs.length, by simp, Nat.zero_le _, h0⟩, ?_⟩
  rintro i m ys H ⟨rfl, hi, p⟩
  have q := hl i ys H hi p
  by_cases hlt : i < kvs.length
  · refine .inr ⟨⟨q, hlt⟩, hz i ys H hlt p, Pv (i + 1), fun ys' H' p' => ⟨kvs.length - (i + 1), by omega, rfl, hlt, p'⟩, fun x H' y => ?_⟩
    obtain ⟨e, kv, hkv, rfl⟩ := y
    subst e
    exact hs i kv ys _ hkv p
  · have e : i = kvs.length := by omega
    subst e
    exact .inl ⟨⟨q, Nat.le_refl _⟩, hd ys H p⟩
section
variable {X : Cx}
theorem call_dict_rd : CallR X (.type "dict") (fun xs H Q => ∃ a kvs, xs = [.ref a] ∧ Rd H a (.dK kvs) ∧ ∀ p, H p = none → Q (.ref p) (upd H p (.dK kvs))) := by
  intro pins s σ H vs us Q I r h
  obtain ⟨a, kvs, rfl, e, q⟩ := h
  cases r with
  | cons r rr =>
    cases rr
    cases r
    exact d_copyOf I e fun p s' hp I' => ⟨.ref p, _, I', rfl, q p hp⟩
theorem nums_of {vs : List Value} {ns : List Int} (h : IntsAre vs ns) : numsOf vs = ns := by
  induction h with
  | nil => rfl
  | cons n t r ih => show n :: numsOf _ = _; rw [ih]
/-- sum(xs) of ints -/
theorem call_sum : CallR X (.builtin "sum") (fun xs H Q => X.calm = true ∧ ∃ (p : Addr) (ns : List Int), xs = [.ref p] ∧ SqL X.K H p (ns.map V.int) ∧ Q (.int ns.sum) H) := by
  intro pins s σ H xs us Q I r h
  obtain ⟨hc, p, ns, rfl, hp, q⟩ := h
  obtain ⟨u, rfl, ru⟩ := vals1 r
  cases ru
  obtain ⟨its, rv, pl, hz⟩ := I.list hp
  have hi := intsAre_of rv
  obtain ⟨ys, hys⟩ := hi.allInts.items
  have hl := pl.isList
  rw [hys] at hl
  refine sum_intListG (I.ok.hd hc) hl fun h' tk t' hk => ⟨.int ns.sum, H, I.kept hk, ⟨t', ?_⟩, q⟩
  rw [preSum_eq, List.take_of_length_le (by simp)]
  have e1 := nums_of hi
  have e2 := nums_intItems ys
  rw [← hys] at e2
  have e3 : numsOf its = numsOf its.toArray.toList := rfl
  rw [e3, e2] at e1
  rw [e1]
theorem vals_app {xs ys : List V} {us vs : List Value} (a : Vals xs us) (b : Vals ys vs) : Vals (xs ++ ys) (us ++ vs) := by
  induction a with
  | nil => exact b
  | cons r t ih => exact .cons r ih
theorem vals_rev {xs : List V} {us : List Value} (a : Vals xs us) : Vals xs.reverse us.reverse := by
  induction a with
  | nil => exact .nil
  | cons r t ih =>
    rw [List.reverse_cons, List.reverse_cons]
    exact vals_app ih (.cons r .nil)
theorem ints_at {vs : List Value} {ns : List Int} (h : IntsAre vs ns) : ∀ {i : Nat}, i < vs.length → ∃ t, vs[i]? = some (.int (ns.getD i 0) t) := by
  induction h with
  | nil => intro i hi; exact absurd hi (Nat.not_lt_zero _)
  | cons n t r ih =>
    intro i hi
    cases i with
    | zero => exact ⟨t, rfl⟩
    | succ i => exact ih (Nat.lt_of_succ_lt_succ hi)
/-- xs[::-1] -/
def tRev (K : PySem.W.Frag) (te t3 : TE) : TE := fun σ H Q => te σ H fun x H1 => t3 σ H1 fun k H2 => k = .int (-1) ∧ ∃ a xs, x = .ref a ∧ SqL K H2 a xs ∧ ∀ p, H2 p = none → Q (.ref p) (upd H2 p (.lst xs.reverse))
theorem pe_rev {e st : Expr} {te t3 : TE} {pos p2 : Pos} (he : PE X e te) (h3 : PE X st t3) : PE X (.Subscript e (.Slice none none (some st) p2) pos) (tRev X.K te t3) := by
  intro pins s σ H Q I h
  refine Subscript_ (thn (he pins s σ H _ I h) fun v s1 ⟨x, H1, I1, r1, q1⟩ => ?_)
  refine wpAny_Slice ?_
  rw [evalPart_none]
  refine wpAny_pure (wpAny_pure ?_)
  rw [evalPart_some]
  refine thn (h3 pins s1 σ H1 _ I1 q1) fun k s2 ⟨y, H2, I2, r2, q2⟩ => ?_
  obtain ⟨rfl, a, xs, rfl, hx, q⟩ := q2
  obtain ⟨t, rfl⟩ := r2
  cases r1
  have I4 : Inv X pins σ H2 { s2 with heap := s2.heap.push { cls := .type "slice", data := .fields #[.none, .none, .int (-1) t] } } := I2.kept (t' := s2.toks) fun b ob z => Heap.get?_push_of_some _ z
  obtain ⟨its, r, ht, hz⟩ := I4.list hx
  have hlen := r.length
  show wpAny (model X.prog X.w) X.A (subscriptTail e (.Slice none none (some st) p2) (.ref a) (.ref s2.heap.objs.size)) (EP X pins σ Q) X.xe { s2 with heap := s2.heap.push { cls := .type "slice", data := .fields #[.none, .none, .int (-1) t] } }
  refine tail_any (ops := [.ref a, .ref s2.heap.objs.size]) ht.isList.typeIs slot_list_getitem.lookup ?_ (by with_unfolding_all rfl)
  refine wpAny_getItem_list_slice ht.isList (Heap.IsSliceOf.new ..) .none .none (.int (-1) t) (by decide) ?_ (by rw [List.size_toArray]; omega)
  rw [PySem.W.krv_pick]
  refine ⟨.ref _, _, I4.laid (t' := s2.toks) (o := .lst xs.reverse) (fun b ob z => Heap.get?_push_of_some _ z) (Nat.le_refl _) ?_, rfl, q _ (I4.hok.fresh (Nat.le_refl _))⟩
  exact ⟨by rw [List.length_reverse]; exact hz, its.reverse, 0, vals_rev r, Heap.get?_push_size _ rfl⟩
end
end L2
namespace L2
open PySem PySem.Spec PyProof.Rows PySem.SeqAt MeetsSeq MeetsSeq2 MeetsSeq3
open AutoSeq1 (wpAny_loadPart')
/-- lists of ints of one length, in order -/
theorem lt_go (l b : Addr) (us vs : List Value) (ns ms : List Int) (hu : IntsAre us ns) (hv : IntsAre vs ms) (hsz : us.length = vs.length) (n1 n2 : Nat) (da db : Option Addr) (sa sb : Array (Option Value)) (k : Nat) :
    ∀ i : Nat, us.length - i = k → Meets (Builtin.«list.__eq__.loop» ⟨[.ref l, .ref b, rawInt i, rawInt 0], []⟩)
      (fun A R s => s.heap.get? l = some { cls := .type "list", dict := da, data := .seq us.toArray n1, slots := sa } ∧ s.heap.get? b = some { cls := .type "list", dict := db, data := .seq vs.toArray n2, slots := sb } ∧
        R (.ok (.ret (.bool (lexB (ns.drop i) (ms.drop i))))) s) := by
  have l1 := hu.length
  have l2 := hv.length
  induction k with
  | zero =>
    intro i hk prog w A R s h
    obtain ⟨hp, g, d, tk, os⟩ := s; obtain ⟨h1, h2, h⟩ := h
    wp_walk using wpAny_loadPart' h1, wpAny_loadPart' h2
    have e1 : us.toArray[((i : Nat) : Int).toNat]? = none := by simp; omega
    have e2 : vs.toArray[((i : Nat) : Int).toNat]? = none := by simp; omega
    rw [e1, e2]
    wp_walk using wpAny_loadPart' h1, wpAny_loadPart' h2
    rw [List.drop_eq_nil_of_le (by omega), List.drop_eq_nil_of_le (by omega)] at h
    show R (.ok (.ret (.bool (decide (us.toArray.size < vs.toArray.size))))) _
    rw [decide_eq_false (by simp; omega)]
    exact h
  | succ k ih =>
    intro i hk prog w A R s h
    obtain ⟨hp, g, d, tk, os⟩ := s; obtain ⟨h1, h2, h⟩ := h
    wp_walk using wpAny_loadPart' h1, wpAny_loadPart' h2
    have hi1 : i < us.length := by omega
    have hi2 : i < vs.length := by omega
    obtain ⟨t1, e1⟩ := ints_at hu hi1
    obtain ⟨t2, e2⟩ := ints_at hv hi2
    have e1' : us.toArray[((i : Nat) : Int).toNat]? = some (.int (ns.getD i 0) t1) := by simpa using e1
    have e2' : vs.toArray[((i : Nat) : Int).toNat]? = some (.int (ms.getD i 0) t2) := by simpa using e2
    have hd1 : ns.drop i = ns.getD i 0 :: ns.drop (i + 1) := by rw [List.drop_eq_getElem_cons (by omega), List.getD_eq_getElem?_getD, List.getElem?_eq_getElem (by omega)]; rfl
    have hd2 : ms.drop i = ms.getD i 0 :: ms.drop (i + 1) := by rw [List.drop_eq_getElem_cons (by omega), List.getD_eq_getElem?_getD, List.getElem?_eq_getElem (by omega)]; rfl
    rw [hd1, hd2] at h
    have h : R (.ok (.ret (.bool (if ns.getD i 0 = ms.getD i 0 then lexB (ns.drop (i + 1)) (ms.drop (i + 1)) else decide (ns.getD i 0 < ms.getD i 0))))) _ := h
    rw [e1', e2']
    refine wpAny_bind (EqAt.int_int _ t1 _ t2 prog w _ _ ?_)
    by_cases c : ns.getD i 0 = ms.getD i 0
    · rw [if_pos c] at h
      rw [c, beq_self_eq_true]
      wp_walk
      rw [show ((i : Int) + 1) = ((i + 1 : Nat) : Int) by omega]
      exact ⟨plainId_quiet plain_eq_loop _, codeAny_builtin entry_eq_loop (by
        rw [Around.under_plainId plain_eq_loop _]
        exact ih (i + 1) (by omega) prog w A R _ ⟨h1, h2, h⟩)⟩
    · rw [if_neg c] at h
      rw [beq_eq_false_iff_ne.mpr c]
      wp_walk using wpAny_loadPart' h1, wpAny_loadPart' h2
      rw [e1', e2']
      refine wpAny_bind (show wpAny _ _ (compareOp .Lt _ _) _ _ _ from lt_int ?_)
      wp_walk
      exact h
end L2
namespace L2
open PySem PySem.Spec PyProof.Rows PySem.SeqAt MeetsSeq MeetsSeq2 MeetsSeq3
open AutoSeq1 (wpAny_loadPart')
theorem lt_meets (l b : Addr) (us vs : List Value) (ns ms : List Int) (hu : IntsAre us ns) (hv : IntsAre vs ms) (hsz : us.length = vs.length) (n1 n2 : Nat) (da db : Option Addr) (sa sb : Array (Option Value)) :
    Meets (Builtin.«list.__lt__» ⟨[.ref l, .ref b], []⟩)
      (fun A R s => s.heap.get? l = some { cls := .type "list", dict := da, data := .seq us.toArray n1, slots := sa } ∧ s.heap.get? b = some { cls := .type "list", dict := db, data := .seq vs.toArray n2, slots := sb } ∧
        R (.ok (.ret (.bool (lexB ns ms)))) s) := by
  intro prog w A R s h
  obtain ⟨hp, g, d, tk, os⟩ := s; obtain ⟨h1, h2, h⟩ := h
  have f3 := AutoSeq1.sub_list_list
  wp_walk using wpAny_loadPart' h1, wpAny_loadPart' h2
  exact ⟨plainId_quiet plain_eq_loop _, codeAny_builtin entry_eq_loop (by
    rw [Around.under_plainId plain_eq_loop _]
    exact lt_go l b us vs ns ms hu hv hsz n1 n2 da db sa sb _ 0 rfl prog w A R _ ⟨h1, h2, by simpa using h⟩)⟩
theorem op_ltL {X : Cx} (hu : X.A.units + 1 < cLine) : OpR X (compareOp .Lt) (fun x y H Q => ∃ a b ns ms, x = .ref a ∧ y = .ref b ∧ SqL X.K H a (ns.map V.int) ∧ SqL X.K H b (ms.map V.int) ∧ ns.length = ms.length ∧ Q (.bl (lexB ns ms)) H) := by
  intro pins s σ H x y v u Q I rx ry h
  obtain ⟨a, b, ns, ms, rfl, rfl, ha, hb, hl, q⟩ := h
  cases rx
  cases ry
  obtain ⟨i1, r1, p1, _⟩ := I.list ha
  obtain ⟨i2, r2, p2, _⟩ := I.list hb
  have e1 := r1.length
  have e2 := r2.length
  rw [List.length_map] at e1 e2
  obtain ⟨⟨cls, dd, data, sl⟩, ho, hc, n, hd⟩ := id p1.isList
  obtain ⟨⟨cls2, dd2, data2, sl2⟩, ho2, hc2, n2, hd2⟩ := id p2.isList
  simp only at hc hd hc2 hd2
  subst hc hd hc2 hd2
  exact richCompare_meets_room (op := .Lt) ⟨_, ho, rfl⟩ ⟨_, ho2, rfl⟩ PySem.F.slot_list_lt PySem.F.entry_list_lt (PySem.F.args_list_lt_2 _ _) (lt_meets a b i1 i2 ns ms (intsAre_of r1) (intsAre_of r2) (by omega) n n2 dd dd2 sl sl2)
    ⟨ho, ho2, (show Value.bool (lexB ns ms) ≠ Value.notImplemented from fun z => nomatch z), .bl _, H, I, rfl, q⟩ (by omega)
/-- two lists, item by item the same -/
theorem ne_go (P : Program) (w : World) (l b : Addr) (us vs : Array Value) (n1 n2 : Nat) (da db : Option Addr) (sa sb : Array (Option Value)) (hsz : us.size = vs.size) (k : Nat) :
    ∀ i : Nat, us.size - i = k → MeetsIn P w (Builtin.«list.__eq__.loop» ⟨[.ref l, .ref b, rawInt i, rawInt 3], []⟩)
      (fun A R s => s.heap.get? l = some { cls := .type "list", dict := da, data := .seq us n1, slots := sa } ∧ s.heap.get? b = some { cls := .type "list", dict := db, data := .seq vs n2, slots := sb } ∧
        (∀ j (h1 : j < us.size) (h2 : j < vs.size) (E : Value → Shared → Prop) (Q : Bool → Shared → Prop), Q true s → wpAny (model P w) A.in1 (eqBool us[j] vs[j]) Q E s) ∧ R (.ok (.ret (.bool false))) s) := by
  induction k with
  | zero =>
    intro i hk A R s h
    obtain ⟨hp, g, d, tk, os⟩ := s; obtain ⟨h1, h2, he, h⟩ := h
    wp_walk using wpAny_loadPart' h1, wpAny_loadPart' h2
    have e1 : us[((i : Nat) : Int).toNat]? = none := by simp; omega
    have e2 : vs[((i : Nat) : Int).toNat]? = none := by simp; omega
    rw [e1, e2]
    wp_walk using wpAny_loadPart' h1, wpAny_loadPart' h2
    show R (.ok (.ret (.bool (us.size != vs.size)))) _
    rw [hsz]
    simpa using h
  | succ k ih =>
    intro i hk A R s h
    obtain ⟨hp, g, d, tk, os⟩ := s; obtain ⟨h1, h2, he, h⟩ := h
    wp_walk using wpAny_loadPart' h1, wpAny_loadPart' h2
    have c1 : i < us.size := by omega
    have c2 : i < vs.size := by omega
    have e1 : us[((i : Nat) : Int).toNat]? = some us[i] := by simp [c1]
    have e2 : vs[((i : Nat) : Int).toNat]? = some vs[i] := by simp [c2]
    rw [e1, e2]
    refine wpAny_bind (he i c1 c2 _ _ ?_)
    wp_walk
    rw [show ((i : Int) + 1) = ((i + 1 : Nat) : Int) by omega]
    exact ⟨plainId_quiet plain_eq_loop _, codeAny_builtin entry_eq_loop (by
      rw [Around.under_plainId plain_eq_loop _]
      exact ih (i + 1) (by omega) A R _ ⟨h1, h2, he, h⟩)⟩
theorem ne_meets (P : Program) (w : World) (l b : Addr) (us vs : Array Value) (n1 n2 : Nat) (da db : Option Addr) (sa sb : Array (Option Value)) (hsz : us.size = vs.size) :
    MeetsIn P w (Builtin.«list.__ne__» ⟨[.ref l, .ref b], []⟩)
      (fun A R s => s.heap.get? l = some { cls := .type "list", dict := da, data := .seq us n1, slots := sa } ∧ s.heap.get? b = some { cls := .type "list", dict := db, data := .seq vs n2, slots := sb } ∧
        (∀ j (h1 : j < us.size) (h2 : j < vs.size) (E : Value → Shared → Prop) (Q : Bool → Shared → Prop), Q true s → wpAny (model P w) A.in1 (eqBool us[j] vs[j]) Q E s) ∧ R (.ok (.ret (.bool false))) s) := by
  intro A R s h
  obtain ⟨hp, g, d, tk, os⟩ := s; obtain ⟨h1, h2, he, h⟩ := h
  have f3 := AutoSeq1.sub_list_list
  have nne : ¬ (us.size != vs.size) = true := by simp [hsz]
  wp_walk using wpAny_loadPart' h1, wpAny_loadPart' h2
  exact ⟨plainId_quiet plain_eq_loop _, codeAny_builtin entry_eq_loop (by
    rw [Around.under_plainId plain_eq_loop _]
    exact ne_go P w l b us vs n1 n2 da db sa sb hsz _ 0 rfl A R _ ⟨h1, h2, he, h⟩)⟩
/-- two dicts that tell the same are the same -/
theorem eq_dicts {X : Cx} {pins : List (Addr × Obj)} {σ : St} {H : Hp} {s : Shared} (I : Inv X pins σ H s) {A : Around} (hu : A.units < cLine) {a b : Addr} {kvs : List (Key × V)} (hne : a ≠ b) (ha : Rd H a (.dK kvs)) (hb : Rd H b (.dK kvs)) (hv : ∀ kv ∈ kvs, ∃ i, kv.2 = V.int i) (hk : ∀ kv ∈ kvs, valV kvs kv.1 = some kv.2)
    (E : Value → Shared → Prop) (Q : Bool → Shared → Prop) (q : Q true s) : wpAny (model X.prog X.w) A (eqBool (.ref a) (.ref b)) Q E s := by
  obtain ⟨z1, l1, ka, ra, da⟩ := dk_rd I.hok ha
  obtain ⟨z2, l2, kb, rb, db⟩ := dk_rd I.hok hb
  unfold eqBool
  refine wpAny_holding ?_
  refine wpAny_ite_split (fun hab => absurd (by have := eq_of_beq hab; injection this) hne) (fun _ => ?_)
  refine wpAny_bind (PySem.W.keq_eq (r := true) l1 l2 da db hu (fun _ => kv_hits rb hv hk (fun _ h => h) ra) (wpAny_truthy_bool ?_))
  rw [← ra.length, ← rb.length, beq_self_eq_true]
  exact q
theorem op_neDicts {X : Cx} (hu : X.A.units + 1 < cLine) : OpR X (compareOp .NotEq) (fun x y H Q => ∃ a b d1 d2 e1 e2 k1 k2, x = .ref a ∧ y = .ref b ∧ H a = some (.lst [.ref d1, .ref d2]) ∧ H b = some (.lst [.ref e1, .ref e2]) ∧ Rd H d1 (.dK k1) ∧ Rd H e1 (.dK k1) ∧ Rd H d2 (.dK k2) ∧ Rd H e2 (.dK k2) ∧ d1 ≠ e1 ∧ d2 ≠ e2 ∧
    (∀ kv ∈ k1, ∃ i, kv.2 = V.int i) ∧ (∀ kv ∈ k1, valV k1 kv.1 = some kv.2) ∧ (∀ kv ∈ k2, ∃ i, kv.2 = V.int i) ∧ (∀ kv ∈ k2, valV k2 kv.1 = some kv.2) ∧ Q (.bl false) H) := by
  intro pins s σ H x y v u Q I rx ry h
  obtain ⟨a, b, d1, d2, e1, e2, k1, k2, rfl, rfl, ha, hb, h1, h2, h3, h4, n1, n2, v1, w1, v2, w2, q⟩ := h
  cases rx
  cases ry
  obtain ⟨i1, r1, p1, _⟩ := I.list (SqL.of ha)
  obtain ⟨i2, r2, p2, _⟩ := I.list (SqL.of hb)
  obtain ⟨⟨cls, dd, data, sl⟩, ho, hc, n, hd⟩ := id p1.isList
  obtain ⟨⟨cls2, dd2, data2, sl2⟩, ho2, hc2, m, hd2⟩ := id p2.isList
  simp only at hc hd hc2 hd2
  subst hc hd hc2 hd2
  have e1' := r1.length
  have e2' := r2.length
  cases r1 with
  | cons ra rr =>
    cases rr with
    | cons rb rr =>
      cases rr
      cases ra
      cases rb
      cases r2 with
      | cons rc rr =>
        cases rr with
        | cons rd rr =>
          cases rr
          cases rc
          cases rd
          refine wpAny_richCompare_same_room (op := .NotEq) ⟨_, ho, rfl⟩ ⟨_, ho2, rfl⟩ PySem.F.slot_list_ne (call_meetsIn PySem.F.slot_list_ne ⟨_, ho, rfl⟩ PySem.F.entry_list_ne (PySem.F.args_list_ne_2 _ _) (ne_meets X.prog X.w a b _ _ n m dd dd2 sl sl2 (by simp)) ⟨ho, ho2, fun j c1 c2 E Q' q' => ?_, ?_⟩) (by omega)
          · match j, c1, c2 with
            | 0, _, _ => exact eq_dicts I (by show X.A.in1.units < cLine; simp only [Around.in1]; omega) n1 h1 h2 v1 w1 E Q' q'
            | 1, _, _ => exact eq_dicts I (by show X.A.in1.units < cLine; simp only [Around.in1]; omega) n2 h3 h4 v2 w2 E Q' q'
          · exact ⟨(show Value.bool false ≠ Value.notImplemented from fun z => nomatch z), .bl false, H, I, rfl, q⟩
end L2

set_option Elab.async false
set_option linter.all false
set_option maxRecDepth 100000
set_option maxHeartbeats 4000000
namespace K05
open PySem L2
def top (i : Nat) : Stmt := PySem.Challenge.pw_lampforge_k05_worths.main.body.getD i (.Pass ⟨0, 0, 0, 0⟩)
abbrev s_two_to : Stmt := top 3
abbrev s_sayings_in : Stmt := top 6
abbrev s_width_over : Stmt := top 7
abbrev s_worth : Stmt := top 9
abbrev s_measured : Stmt := top 10
abbrev s_worth_of_one : Stmt := top 11
abbrev s_worth_of_two : Stmt := top 12
abbrev s_L_bag : Stmt := top 14
abbrev s_L_take : Stmt := top 15
abbrev s_L_names : Stmt := top 16
abbrev s_L_rooms : Stmt := top 17
abbrev s_L_leaf : Stmt := top 18
abbrev s_L_wants : Stmt := top 19
abbrev s_L_typed : Stmt := top 20
abbrev s_L_row : Stmt := top 21
abbrev s_L_summed : Stmt := top 22
abbrev s_L_of_two : Stmt := top 23
abbrev s_L_worth : Stmt := top 24
abbrev s_L_good : Stmt := top 25
abbrev s_law : Stmt := top 26
theorem sc_two_to : FnScope ["many", "power", "step"] ["many"] (defScope s_two_to) := ⟨rfl, rfl, rfl, by decide +kernel, rfl, by decide +kernel, by decide +kernel⟩
theorem sc_sayings_in : FnScope ["saying"] ["saying"] (defScope s_sayings_in) := ⟨rfl, rfl, rfl, by decide +kernel, rfl, by decide +kernel, by decide +kernel⟩
theorem sc_width_over : FnScope ["saying", "inner", "word", "both", "fits"] ["saying", "inner"] (defScope s_width_over) := ⟨rfl, rfl, rfl, by decide +kernel, rfl, by decide +kernel, by decide +kernel⟩
theorem sc_worth : FnScope ["saying", "widths", "numbers"] ["saying", "widths", "numbers"] (defScope s_worth) := ⟨rfl, rfl, rfl, by decide +kernel, rfl, by decide +kernel, by decide +kernel⟩
theorem sc_measured : FnScope ["saying", "widths", "numbers", "word", "found", "inner", "worths", "width"] ["saying", "widths", "numbers"] (defScope s_measured) := ⟨rfl, rfl, rfl, by decide +kernel, rfl, by decide +kernel, by decide +kernel⟩
theorem sc_worth_of_one : FnScope ["saying", "width", "a", "word"] ["saying", "width", "a"] (defScope s_worth_of_one) := ⟨rfl, rfl, rfl, by decide +kernel, rfl, by decide +kernel, by decide +kernel⟩
theorem sc_worth_of_two : FnScope ["word", "width", "a", "b"] ["word", "width", "a", "b"] (defScope s_worth_of_two) := ⟨rfl, rfl, rfl, by decide +kernel, rfl, by decide +kernel, by decide +kernel⟩
theorem sc_L_bag : FnScope ["_law_script", "_law_at", "_law_cell", "_law_mix", "_law_k"] ["_law_script", "_law_at"] (defScope s_L_bag) := ⟨rfl, rfl, rfl, by decide +kernel, rfl, by decide +kernel, by decide +kernel⟩
theorem sc_L_take : FnScope ["_law_bag_here", "_law_many", "_law_digit"] ["_law_bag_here", "_law_many"] (defScope s_L_take) := ⟨rfl, rfl, rfl, by decide +kernel, rfl, by decide +kernel, by decide +kernel⟩
theorem sc_L_names : FnScope ["_law_bag_here", "_law_stem", "_law_at", "_law_names_here", "_law_sign", "_law_name"] ["_law_bag_here"] (defScope s_L_names) := ⟨rfl, rfl, rfl, by decide +kernel, rfl, by decide +kernel, by decide +kernel⟩
theorem sc_L_rooms : FnScope ["_law_bag_here", "_law_room", "_law_many", "_law_left", "_law_rooms_here", "_law_k", "_law_more"] ["_law_bag_here", "_law_room", "_law_many"] (defScope s_L_rooms) := ⟨rfl, rfl, rfl, by decide +kernel, rfl, by decide +kernel, by decide +kernel⟩
theorem sc_L_leaf : FnScope ["_law_bag_here", "_law_widths", "_law_width", "_law_suits"] ["_law_bag_here", "_law_widths", "_law_width"] (defScope s_L_leaf) := ⟨rfl, rfl, rfl, by decide +kernel, rfl, by decide +kernel, by decide +kernel⟩
theorem sc_L_wants : FnScope ["_law_bag_here", "_law_word", "_law_width", "_law_one"] ["_law_bag_here", "_law_word", "_law_width"] (defScope s_L_wants) := ⟨rfl, rfl, rfl, by decide +kernel, rfl, by decide +kernel, by decide +kernel⟩
theorem sc_L_typed : FnScope ["_law_bag_here", "_law_widths", "_law_width", "_law_deep", "_law_room", "_law_words", "_law_word", "_law_many", "_law_wants_here", "_law_parts", "_law_want", "_law_more"] ["_law_bag_here", "_law_widths", "_law_width", "_law_deep", "_law_room"] (defScope s_L_typed) := ⟨rfl, rfl, rfl, by decide +kernel, rfl, by decide +kernel, by decide +kernel⟩
theorem sc_L_row : FnScope ["_law_number", "_law_width"] ["_law_number", "_law_width"] (defScope s_L_row) := ⟨rfl, rfl, rfl, by decide +kernel, rfl, by decide +kernel, by decide +kernel⟩
theorem sc_L_summed : FnScope ["_law_one", "_law_other", "_law_carry", "_law_row_here", "_law_k", "_law_three"] ["_law_one", "_law_other", "_law_carry"] (defScope s_L_summed) := ⟨rfl, rfl, rfl, by decide +kernel, rfl, by decide +kernel, by decide +kernel⟩
theorem sc_L_of_two : FnScope ["_law_word", "_law_one", "_law_other"] ["_law_word", "_law_one", "_law_other"] (defScope s_L_of_two) := ⟨rfl, rfl, rfl, by decide +kernel, rfl, by decide +kernel, by decide +kernel⟩
theorem sc_L_worth : FnScope ["_law_saying", "_law_widths", "_law_numbers", "_law_word", "_law_parts", "_law_rows", "_law_row_here"] ["_law_saying", "_law_widths", "_law_numbers"] (defScope s_L_worth) := ⟨rfl, rfl, rfl, by decide +kernel, rfl, by decide +kernel, by decide +kernel⟩
theorem sc_L_good : FnScope ["_law_saying", "_law_widths", "_law_numbers", "_law_handed", "_law_found", "_law_due"] ["_law_saying", "_law_widths", "_law_numbers"] (defScope s_L_good) := ⟨rfl, rfl, rfl, by decide +kernel, rfl, by decide +kernel, by decide +kernel⟩
theorem sc_law : FnScope ["_law_script", "_law_at", "_law_bag_here", "_law_widths", "_law_name", "_law_room", "_law_saying", "_law_again", "_law_numbers"] ["_law_script"] (defScope s_law) := ⟨rfl, rfl, rfl, by decide +kernel, rfl, by decide +kernel, by decide +kernel⟩
/-- where the top's defs and tables stand -/
structure Ad where
  a_two_to : Addr
  d_two_to : FuncData
  a_sayings_in : Addr
  d_sayings_in : FuncData
  a_width_over : Addr
  d_width_over : FuncData
  a_worth : Addr
  d_worth : FuncData
  a_measured : Addr
  d_measured : FuncData
  a_worth_of_one : Addr
  d_worth_of_one : FuncData
  a_worth_of_two : Addr
  d_worth_of_two : FuncData
  a_L_bag : Addr
  d_L_bag : FuncData
  a_L_take : Addr
  d_L_take : FuncData
  a_L_names : Addr
  d_L_names : FuncData
  a_L_rooms : Addr
  d_L_rooms : FuncData
  a_L_leaf : Addr
  d_L_leaf : FuncData
  a_L_wants : Addr
  d_L_wants : FuncData
  a_L_typed : Addr
  d_L_typed : FuncData
  a_L_row : Addr
  d_L_row : FuncData
  a_L_summed : Addr
  d_L_summed : FuncData
  a_L_of_two : Addr
  d_L_of_two : FuncData
  a_L_worth : Addr
  d_L_worth : FuncData
  a_L_good : Addr
  d_L_good : FuncData
  a_law : Addr
  d_law : FuncData
  a_FORMS : Addr
/-- a word over what its sayings measure: the width and the worth -/
inductive Ev : Str → List PyData → List Int → List Int → Int → Int → Prop
  | not (a x : Int) : Ev "not" [] [a] [x] a (2 ^ a.toNat - 1 - x)
  | and (a x y : Int) : Ev "and" [] [a, a] [x, y] a (Builtin.bitAnd x y)
  | or (a x y : Int) : Ev "or" [] [a, a] [x, y] a (Builtin.bitOr x y)
  | odd (a x y : Int) : Ev "odd" [] [a, a] [x, y] a (Builtin.bitXor x y)
  | sum (a x y : Int) : Ev "sum" [] [a, a] [x, y] a ((x + y) % 2 ^ a.toNat)
  | less (a x y : Int) : Ev "less" [] [a, a] [x, y] a ((x - y) % 2 ^ a.toNat)
  | under (a x y : Int) : Ev "under" [] [a, a] [x, y] 1 (if x < y then 1 else 0)
  | same (a x y : Int) : Ev "same" [] [a, a] [x, y] 1 (if x = y then 1 else 0)
  | choice (a c x y : Int) : Ev "choice" [] [1, a, a] [c, x, y] a (if c = 1 then x else y)
  | up (k a x : Int) (h0 : 0 ≤ k) (h1 : k ≤ 50) : Ev "up" [.int k] [a] [x] a (x * 2 ^ k.toNat % 2 ^ a.toNat)
  | down (k a x : Int) (h0 : 0 ≤ k) (h1 : k ≤ 50) : Ev "down" [.int k] [a] [x] a (x / 2 ^ k.toNat)
  | join (a b x y : Int) (h : a + b ≤ 8) : Ev "join" [] [a, b] [x, y] (a + b) (x + y * 2 ^ a.toNat)
  | cut (f w a x : Int) (h0 : 0 ≤ f) (h1 : 0 ≤ w) (h : f + w ≤ a) : Ev "cut" [.int f, .int w] [a] [x] w (x / 2 ^ f.toNat % 2 ^ w.toNat)
  | table (w a x : Int) (ns : List Int) (h4 : a ≤ 4) (hl : (ns.length : Int) = 2 ^ a.toNat) (h0 : 0 ≤ x) (h1 : x < 2 ^ a.toNat) : Ev "table" [.int w, .tuple (ns.map PyData.int)] [a] [x] w (ns.getD x.toNat 0)
theorem Ev.word {z : Str} {hd : List PyData} {ws vs : List Int} {w v : Int} (h : Ev z hd ws vs w v) : z ∈ words ∧ z ≠ "wire" ∧ z ≠ "number" := by
  cases h <;> exact ⟨by decide, by decide, by decide⟩
theorem Ev.form {z : Str} {hd : List PyData} {ws vs : List Int} {w v : Int} (h : Ev z hd ws vs w v) : formK z = hd.length + 1 ∧ hd.length ≤ 2 ∧ ws.length = vs.length ∧ ws.length ≤ 3 := by
  cases h <;> exact ⟨by simp only [List.length_cons, List.length_nil]; decide, by simp, rfl, by simp⟩
theorem pow_pos2 (n : Nat) : (0 : Int) < 2 ^ n := by rw [cast_pow]; have : 0 < 2 ^ n := Nat.pow_pos (by decide); omega
theorem pow_le2 {n : Nat} (h : n ≤ 50) : (2 : Int) ^ n ≤ 1125899906842624 := by
  have h1 : (2 : Nat) ^ n ≤ 2 ^ 50 := Nat.pow_le_pow_right (by decide) h
  rw [cast_pow]
  generalize 2 ^ n = N at h1
  omega
theorem dats_ints {H : Hp} : ∀ {ns : List Int} {xs : List V}, Dats H (ns.map PyData.int) xs → xs = ns.map V.int
  | [], xs, h => h.nilI
  | n :: ns, xs, h => by
    obtain ⟨x, r, rfl, h1, h2⟩ := Dats.consI h
    rw [h1.intI, dats_ints h2]
    rfl
theorem join_len (us : List Str) : (Txt.join "" us).length = (us.map (·.length)).sum := by
  have h1 : Txt.join "" us = Str.join "" us := StrLaws.glued_eq_join "" us
  rw [h1]
  clear h1
  induction us with
  | nil => rfl
  | cons a r ih =>
    cases r with
    | nil => simp [Str.join]
    | cons b r =>
      rw [List.map_cons, List.sum_cons, ← ih]
      show (a ++ "" ++ Str.join "" (b :: r)).length = _
      rw [Str.length_append, Str.length_append]
      show a.length + 0 + _ = _
      omega
theorem sum_ones {zs : List Str} (h : ∀ z ∈ zs, z.length = 1) : (zs.map (·.length)).sum ≤ zs.length := by
  induction zs with
  | nil => exact Nat.le_refl _
  | cons z r ih =>
    rw [List.map_cons, List.sum_cons, h z List.mem_cons_self, List.length_cons]
    have := ih fun y hy => h y (List.mem_cons_of_mem _ hy)
    omega
def sp_two_to : Sp := fun vs H Q _ => ∃ m : Int, vs = [.int m] ∧ 0 ≤ m ∧ m ≤ 100 ∧ Q (.int (2 ^ m.toNat)) H
def sp_sayings_in : Sp := fun vs H Q _ => ∃ (z : Str) (hd subs : List PyData) (v : V), vs = [v] ∧ z ∈ words ∧ formK z = hd.length + 1 ∧ hd.length ≤ 2 ∧ Dat H (.tuple (.str z :: (hd ++ subs))) v ∧ ∀ p xs H', Same H H' → H' p = some (.tup xs) → Dats H' subs xs → Q (.ref p) H'
def sp_width_over : Sp := fun vs H Q _ => ∃ (z : Str) (hd subs : List PyData) (v : V) (pi : Addr) (ws us : List Int) (w val : Int), vs = [v, .ref pi] ∧ Dat H (.tuple (.str z :: (hd ++ subs))) v ∧ H pi = some (.lst (ws.map V.int)) ∧ Ev z hd ws us w val ∧ (∀ a ∈ ws, 1 ≤ a ∧ a ≤ 8) ∧ ∀ H', Same H H' → Q (.int w) H'
def sp_of_one : Sp := fun vs H Q _ => ∃ (z : Str) (hd subs : List PyData) (v : V) (a x w val : Int), vs = [v, .int w, .int x] ∧ Dat H (.tuple (.str z :: (hd ++ subs))) v ∧ Ev z hd [a] [x] w val ∧ (1 ≤ a ∧ a ≤ 8) ∧ (1 ≤ w ∧ w ≤ 8) ∧ ∀ H', Same H H' → Q (.int val) H'
def sp_of_two : Sp := fun vs H Q _ => ∃ (z : Str) (a x y w val : Int), vs = [.str z, .int w, .int x, .int y] ∧ Ev z [] [a, a] [x, y] w val ∧ z ≠ "join" ∧ (1 ≤ a ∧ a ≤ 8) ∧ (1 ≤ w ∧ w ≤ 8) ∧ Q (.int val) H
/-- the saying d measures w and v, at most n deep, by the two dicts -/
def Ms (wk nk : List (Key × V)) : Nat → PyData → Int → Int → Prop
  | 0, _, _, _ => False
  | n + 1, d, w, v => (1 ≤ w ∧ w ≤ 8) ∧ ((∃ x : Str, d = .tuple [.str "wire", .str x] ∧ valV wk (.inr x) = some (.int w) ∧ valV nk (.inr x) = some (.int v)) ∨ d = .tuple [.str "number", .int v, .int w] ∨
    ∃ (z : Str) (hd subs : List PyData) (ws us : List Int), d = .tuple (.str z :: (hd ++ subs)) ∧ Ev z hd ws us w v ∧ subs.length = ws.length ∧ (∀ a ∈ ws, 1 ≤ a ∧ a ≤ 8) ∧ ∀ (i : Nat) (s : PyData), subs[i]? = some s → ∃ (a x : Int), ws[i]? = some a ∧ us[i]? = some x ∧ Ms wk nk n s a x)
theorem Ms.up {wk nk : List (Key × V)} {n m : Nat} {d : PyData} {w v : Int} (h : Ms wk nk n d w v) (l : n ≤ m) : Ms wk nk m d w v := by
  induction n generalizing m d w v with
  | zero => exact h.elim
  | succ n ih =>
    cases m with
    | zero => omega
    | succ m =>
      obtain ⟨hw, h⟩ := h
      refine ⟨hw, ?_⟩
      rcases h with h | h | ⟨z, hd, subs, ws, us, e, ev, hl, hb, hs⟩
      · exact .inl h
      · exact .inr (.inl h)
      · refine .inr (.inr ⟨z, hd, subs, ws, us, e, ev, hl, hb, fun i s hi => ?_⟩)
        obtain ⟨a, x, h1, h2, h3⟩ := hs i s hi
        exact ⟨a, x, h1, h2, ih h3 (by omega)⟩
def sp_meas (n : Nat) : Sp := fun vs H Q _ => ∃ (d : PyData) (v : V) (wd nd : Addr) (wk nk : List (Key × V)) (w x : Int), vs = [v, .ref wd, .ref nd] ∧ Dat H d v ∧ H wd = some (.dK wk) ∧ H nd = some (.dK nk) ∧ Ms wk nk n d w x ∧ ∀ p H', H p = none → Same H H' → H' p = some (.tup [.int w, .int x]) → Q (.ref p) H'
def sp_worth (n : Nat) : Sp := fun vs H Q _ => ∃ (d : PyData) (v : V) (wd nd : Addr) (wk nk : List (Key × V)) (w x : Int), vs = [v, .ref wd, .ref nd] ∧ Dat H d v ∧ H wd = some (.dK wk) ∧ H nd = some (.dK nk) ∧ Ms wk nk n d w x ∧ ∀ H', Same H H' → Q (.int x) H'
theorem dget {H : Hp} {a : Addr} {kvs : List (Key × V)} {x : Str} {v : V} (h : H a = some (.dK kvs)) (e : valV kvs (.inr x) = some v) : DGet H a (.str x) (some v) := by
  have := DGet.k (k := .inr x) h
  rw [e] at this
  exact this
theorem fn_none {P : Program} {w : World} {K : PySem.W.Frag} {mg : Str → Option Value} {base : Heap} {k : Nat} {f : Addr} {fd : FuncData} {ps : List Str} {sp : Sp} (h : ∀ vs H Q E, ¬ sp vs H Q E) : FnOk P w K mg base CX0 k f fd ps sp :=
  ⟨fun vs H Q E q => (h _ _ _ _ q).elim, fun _ _ _ _ _ _ _ _ _ _ _ _ _ q => (h _ _ _ _ q).elim⟩
def sp_L_rooms : Sp := fun vs H Q _ => ∃ (l : Addr) (room many : Int), vs = [.ref l, .int room, .int many] ∧ Bag H l ∧ 0 ≤ many ∧ many ≤ 3 ∧ many ≤ room ∧ room ≤ 1000 ∧ ∀ p (rs : List Int) H', H p = none → p ≠ l → Bg l H H' → H' p = some (.lst (rs.map V.int)) → (rs.length : Int) = many → (∀ r ∈ rs, r ≤ 1001) → Q (.ref p) H'
def sp_L_names : Sp := fun vs H Q _ => ∃ (l : Addr), vs = [.ref l] ∧ Bag H l ∧ ∀ p (zs : List Str) H', zs.length = 6 → p ≠ l → H p = none → Bg l H H' → H' p = some (.lst (zs.map V.str)) → Q (.ref p) H'
def wantN (z : Str) : Nat := if z = "choice" then 3 else if z = "cut" ∨ z = "table" ∨ z = "not" ∨ z = "up" ∨ z = "down" then 1 else 2
theorem inStr3 {z : Str} (h : inV (V.str z) [V.str "not", V.str "up", V.str "down"] = true) : z = "not" ∨ z = "up" ∨ z = "down" := by
  simp [inV, eqV] at h
  rcases h with h | h | h
  · exact .inl h.symm
  · exact .inr (.inl h.symm)
  · exact .inr (.inr h.symm)
theorem notStr3 {z : Str} (h : inV (V.str z) [V.str "not", V.str "up", V.str "down"] = false) : z ≠ "not" ∧ z ≠ "up" ∧ z ≠ "down" := by
  refine ⟨fun e => ?_, fun e => ?_, fun e => ?_⟩ <;> (rw [e] at h; exact absurd h (by decide))
def GoodD (kvs : List (Key × V)) (m : Nat) : Prop := (∀ kv ∈ kvs, ∃ (x : Str) (i : Int), kv = (.inr x, .int i) ∧ 1 ≤ i ∧ i ≤ 8) ∧ (∀ kv ∈ kvs, valV kvs kv.1 = some kv.2) ∧ kvs.length ≤ m
theorem GoodD.nil : GoodD [] 0 := ⟨(fun _ h => nomatch h), (fun _ h => nomatch h), Nat.le_refl _⟩
theorem mem_putK {kvs : List (Key × V)} {k : Key} {v : V} {kv : Key × V} (h : kv ∈ putK kvs k v) : kv = (k, v) ∨ (kv ∈ kvs ∧ kv.1 ≠ k) := by
  unfold putK at h
  split at h
  · obtain ⟨p, hp, e⟩ := List.mem_map.mp h
    by_cases q : p.1 = k
    · rw [if_pos q] at e
      exact .inl (by rw [← e, q])
    · rw [if_neg q] at e
      subst e
      exact .inr ⟨hp, q⟩
  · rename_i hn
    rcases List.mem_append.mp h with q | q
    · refine .inr ⟨q, fun e => hn ?_⟩
      exact List.any_eq_true.mpr ⟨kv, q, decide_eq_true e⟩
    · exact .inl (List.mem_singleton.mp q)
theorem GoodD.put {kvs : List (Key × V)} {m : Nat} (h : GoodD kvs m) {x : Str} {i : Int} (h1 : 1 ≤ i) (h8 : i ≤ 8) : GoodD (putK kvs (.inr x) (.int i)) (m + 1) := by
  refine ⟨fun kv hkv => ?_, fun kv hkv => ?_, ?_⟩
  · rcases mem_putK hkv with e | ⟨e, _⟩
    · exact ⟨x, i, e, h1, h8⟩
    · exact h.1 kv e
  · rw [valV_put]
    rcases mem_putK hkv with e | ⟨e, n⟩
    · rw [e, if_pos rfl]
    · rw [if_neg n]; exact h.2.1 kv e
  · have := length_putK kvs (.inr x : Key) (.int i : V)
    have := h.2.2
    omega
theorem GoodD.kw {kvs : List (Key × V)} {m : Nat} (h : GoodD kvs m) : ∃ kv, KW kvs kv := by
  have key : ∀ x v, valV kvs (.inr x) = some v → ∃ i, v = V.int i ∧ 1 ≤ i ∧ i ≤ 8 := fun x v e => by
    unfold valV at e
    obtain ⟨p, hp, e2⟩ := Option.map_eq_some_iff.mp e
    have hm := List.mem_of_find?_eq_some hp
    obtain ⟨x', i, e3, b⟩ := h.1 p hm
    rw [e3] at e2
    exact ⟨i, e2.symm, b⟩
  refine ⟨fun x => match valV kvs (.inr x) with | some (.int i) => some i | _ => none, fun x => ?_, fun x w e => ?_⟩
  · cases hv : valV kvs (.inr x) with
    | none => dsimp only; rw [hv]; rfl
    | some v => obtain ⟨i, rfl, _⟩ := key x v hv; dsimp only; rw [hv]; rfl
  · dsimp only at e
    cases hv : valV kvs (.inr x) with
    | none => rw [hv] at e; cases e
    | some v =>
      obtain ⟨i, rfl, b⟩ := key x v hv
      rw [hv] at e
      cases e
      exact b
theorem KeepT.dict {H : Hp} {p : Addr} {kvs : List (Key × V)} (h : H p = some (.dK kvs)) (o : HO) : KeepT H (upd H p o) := fun q ys e => by
  have : q ≠ p := fun z => by rw [z, h] at e; cases e
  rw [upd_ne this]
  exact e
def sp_law (K : PySem.W.Frag) : Sp := fun vs H Q _ => ∃ (a : Addr) (ns : List Int), vs = [.ref a] ∧ SqL K H a (ns.map V.int) ∧ ns.length ≤ 63 ∧ ∀ H', Q (.bl true) H'
theorem or_nat (a b : Nat) : Builtin.bitOr (a : Int) (b : Int) = ((a ||| b : Nat) : Int) := by
  rw [PyProof.Rows.bitOr_and, PyProof.Rows.bitAnd_pp (by omega) (by omega), Int.toNat_natCast, Int.toNat_natCast]
  have h := or_sum a b
  omega
theorem and_nat (a b : Nat) : Builtin.bitAnd (a : Int) (b : Int) = ((a &&& b : Nat) : Int) := by
  rw [PyProof.Rows.bitAnd_pp (by omega) (by omega), Int.toNat_natCast, Int.toNat_natCast]
/-- a word that has a width over widths -/
inductive Et : Str → List PyData → List Int → Int → Prop
  | not (a : Int) : Et "not" [] [a] a
  | and (a : Int) : Et "and" [] [a, a] a
  | or (a : Int) : Et "or" [] [a, a] a
  | odd (a : Int) : Et "odd" [] [a, a] a
  | sum (a : Int) : Et "sum" [] [a, a] a
  | less (a : Int) : Et "less" [] [a, a] a
  | under (a : Int) : Et "under" [] [a, a] 1
  | same (a : Int) : Et "same" [] [a, a] 1
  | choice (a : Int) : Et "choice" [] [1, a, a] a
  | up (k a : Int) (h0 : 0 ≤ k) (h1 : k ≤ 50) : Et "up" [.int k] [a] a
  | down (k a : Int) (h0 : 0 ≤ k) (h1 : k ≤ 50) : Et "down" [.int k] [a] a
  | join (a b : Int) (h : a + b ≤ 8) : Et "join" [] [a, b] (a + b)
  | cut (f w a : Int) (h0 : 0 ≤ f) (h1 : 0 ≤ w) (h : f + w ≤ a) : Et "cut" [.int f, .int w] [a] w
  | table (w a : Int) (ns : List Int) (h4 : a ≤ 4) (hl : (ns.length : Int) = 2 ^ a.toNat) (hn : ∀ n ∈ ns, Rng w.toNat n) : Et "table" [.int w, .tuple (ns.map PyData.int)] [a] w
theorem rng_mod {m : Nat} (x : Int) : Rng m (x % 2 ^ m) := ⟨Int.emod_nonneg _ (by have := pow_pos2 m; omega), Int.emod_lt_of_pos _ (pow_pos2 m)⟩
theorem rng_bit (c : Prop) [Decidable c] : Rng (1 : Int).toNat (if c then 1 else 0) := by split <;> exact ⟨by decide, by decide⟩
theorem Et.ev {z : Str} {hd : List PyData} {ws us : List Int} {w : Int} (h : Et z hd ws w) (hl : us.length = ws.length) (hb : ∀ a ∈ ws, 1 ≤ a ∧ a ≤ 8) (hr : ∀ (i : Nat) (a x : Int), ws[i]? = some a → us[i]? = some x → Rng a.toNat x) : ∃ v, Ev z hd ws us w v ∧ Rng w.toNat v := by
  have one : ∀ a, ws = [a] → ∃ x, us = [x] ∧ Rng a.toNat x := fun a e => by
    subst e
    match us, hl, hr with
    | [x], _, hr => exact ⟨x, rfl, hr 0 a x rfl rfl⟩
  have two : ∀ a b, ws = [a, b] → ∃ x y, us = [x, y] ∧ Rng a.toNat x ∧ Rng b.toNat y := fun a b e => by
    subst e
    match us, hl, hr with
    | [x, y], _, hr => exact ⟨x, y, rfl, hr 0 a x rfl rfl, hr 1 b y rfl rfl⟩
  have three : ∀ a b c, ws = [a, b, c] → ∃ x y t, us = [x, y, t] ∧ Rng a.toNat x ∧ Rng b.toNat y ∧ Rng c.toNat t := fun a b c e => by
    subst e
    match us, hl, hr with
    | [x, y, t], _, hr => exact ⟨x, y, t, rfl, hr 0 a x rfl rfl, hr 1 b y rfl rfl, hr 2 c t rfl rfl⟩
  cases h with
  | not =>
    obtain ⟨x, rfl, hx⟩ := one _ rfl
    exact ⟨_, .not _ x, by have := hx.1; have := hx.2; omega, by have := hx.1; omega⟩
  | and =>
    obtain ⟨x, y, rfl, hx, hy⟩ := two _ _ rfl
    refine ⟨_, .and _ x y, ?_⟩
    obtain ⟨p, rfl, hp⟩ := hx.nat
    obtain ⟨q, rfl, hq⟩ := hy.nat
    rw [and_nat]
    exact Rng.of (Nat.lt_of_le_of_lt Nat.and_le_left hp)
  | or =>
    obtain ⟨x, y, rfl, hx, hy⟩ := two _ _ rfl
    refine ⟨_, .or _ x y, ?_⟩
    obtain ⟨p, rfl, hp⟩ := hx.nat
    obtain ⟨q, rfl, hq⟩ := hy.nat
    rw [or_nat]
    exact Rng.of (Nat.or_lt_two_pow hp hq)
  | odd =>
    obtain ⟨x, y, rfl, hx, hy⟩ := two _ _ rfl
    refine ⟨_, .odd _ x y, ?_⟩
    obtain ⟨p, rfl, hp⟩ := hx.nat
    obtain ⟨q, rfl, hq⟩ := hy.nat
    rw [xor_nat]
    exact Rng.of (Nat.xor_lt_two_pow hp hq)
  | sum =>
    obtain ⟨x, y, rfl, hx, hy⟩ := two _ _ rfl
    exact ⟨_, .sum _ x y, rng_mod _⟩
  | less =>
    obtain ⟨x, y, rfl, hx, hy⟩ := two _ _ rfl
    exact ⟨_, .less _ x y, rng_mod _⟩
  | under =>
    obtain ⟨x, y, rfl, hx, hy⟩ := two _ _ rfl
    exact ⟨_, .under _ x y, rng_bit _⟩
  | same =>
    obtain ⟨x, y, rfl, hx, hy⟩ := two _ _ rfl
    exact ⟨_, .same _ x y, rng_bit _⟩
  | choice =>
    obtain ⟨c, x, y, rfl, hc, hx, hy⟩ := three _ _ _ rfl
    refine ⟨_, .choice _ c x y, ?_⟩
    split
    · exact hx
    · exact hy
  | up k _ h0 h1 =>
    obtain ⟨x, rfl, hx⟩ := one _ rfl
    exact ⟨_, .up k _ x h0 h1, rng_mod _⟩
  | down k _ h0 h1 =>
    obtain ⟨x, rfl, hx⟩ := one _ rfl
    refine ⟨_, .down k _ x h0 h1, ?_⟩
    obtain ⟨p, rfl, hp⟩ := hx.nat
    rw [cast_pow, ← Int.natCast_ediv]
    exact Rng.of (Nat.lt_of_le_of_lt (Nat.div_le_self _ _) hp)
  | join a b h =>
    obtain ⟨x, y, rfl, hx, hy⟩ := two a b rfl
    refine ⟨_, .join a b x y h, ?_⟩
    have ha := hb a List.mem_cons_self
    have hb' := hb b (List.mem_cons_of_mem _ List.mem_cons_self)
    obtain ⟨p, rfl, hp⟩ := hx.nat
    obtain ⟨q, rfl, hq⟩ := hy.nat
    rw [cast_pow, ← Int.natCast_mul, ← Int.natCast_add, show (a + b).toNat = b.toNat + a.toNat by omega]
    refine Rng.of ?_
    rw [Nat.pow_add]
    have : q * 2 ^ a.toNat + 2 ^ a.toNat ≤ 2 ^ b.toNat * 2 ^ a.toNat := by
      rw [← Nat.succ_mul]
      exact Nat.mul_le_mul_right _ hq
    omega
  | cut f w a h0 h1 h =>
    obtain ⟨x, rfl, hx⟩ := one a rfl
    exact ⟨_, .cut f w a x h0 h1 h, rng_mod _⟩
  | table w a ns h4 hl' hn =>
    obtain ⟨x, rfl, hx⟩ := one a rfl
    refine ⟨_, .table w a x ns h4 hl' hx.1 hx.2, ?_⟩
    have hlt : x.toNat < ns.length := by have := hx.1; have := hx.2; omega
    rw [List.getD_eq_getElem?_getD, List.getElem?_eq_getElem hlt]
    exact hn _ (List.getElem_mem hlt)
/-- d has the width w by the widths of its wires, at most n deep -/
def Tp (kv : Str → Option Int) : Nat → PyData → Int → Prop
  | 0, _, _ => False
  | n + 1, d, w => (1 ≤ w ∧ w ≤ 8) ∧ ((∃ x : Str, d = .tuple [.str "wire", .str x] ∧ kv x = some w) ∨ (∃ i : Int, d = .tuple [.str "number", .int i, .int w] ∧ Rng w.toNat i) ∨
    ∃ (z : Str) (hd subs : List PyData) (ws : List Int), d = .tuple (.str z :: (hd ++ subs)) ∧ Et z hd ws w ∧ subs.length = ws.length ∧ (∀ a ∈ ws, 1 ≤ a ∧ a ≤ 8) ∧ ∀ (i : Nat) (s : PyData), subs[i]? = some s → ∃ a : Int, ws[i]? = some a ∧ Tp kv n s a)
theorem Tp.up {kv : Str → Option Int} {n m : Nat} {d : PyData} {w : Int} (h : Tp kv n d w) (l : n ≤ m) : Tp kv m d w := by
  induction n generalizing m d w with
  | zero => exact h.elim
  | succ n ih =>
    cases m with
    | zero => omega
    | succ m =>
      obtain ⟨hw, h⟩ := h
      refine ⟨hw, ?_⟩
      rcases h with h | h | ⟨z, hd, subs, ws, e, ev, hl, hb, hs⟩
      · exact .inl h
      · exact .inr (.inl h)
      · refine .inr (.inr ⟨z, hd, subs, ws, e, ev, hl, hb, fun i s hi => ?_⟩)
        obtain ⟨a, h1, h3⟩ := hs i s hi
        exact ⟨a, h1, ih h3 (by omega)⟩
theorem Et.noL {z : Str} {hd : List PyData} {ws : List Int} {w : Int} (h : Et z hd ws w) : noLs hd = true := by
  cases h <;> first | rfl | (simp only [noLs, L2.noL, Bool.and_true, Bool.true_and]; exact noLs_ints _)
theorem Tp.noL {kv : Str → Option Int} {n : Nat} {d : PyData} {w : Int} (h : Tp kv n d w) : noL d = true := by
  induction n generalizing d w with
  | zero => exact h.elim
  | succ n ih =>
    obtain ⟨hw, h⟩ := h
    rcases h with ⟨x, rfl, _⟩ | ⟨i, rfl, _⟩ | ⟨z, hd, subs, ws, rfl, ev, hl, hb, hs⟩
    · simp [L2.noL, noLs]
    · simp [L2.noL, noLs]
    · simp only [L2.noL, noLs, Bool.true_and, noLs_app, ev.noL]
      exact noLs_all fun d hd' => by
        obtain ⟨i, hi, ei⟩ := List.getElem_of_mem hd'
        obtain ⟨a, _, ht⟩ := hs i d (by rw [List.getElem?_eq_getElem hi, ei])
        exact ih ht
/-- d measures w and v by the two dicts, each number in its width -/
def Mr (wk nk : List (Key × V)) : Nat → PyData → Int → Int → Prop
  | 0, _, _, _ => False
  | n + 1, d, w, v => (1 ≤ w ∧ w ≤ 8) ∧ Rng w.toNat v ∧ ((∃ x : Str, d = .tuple [.str "wire", .str x] ∧ valV wk (.inr x) = some (.int w) ∧ valV nk (.inr x) = some (.int v)) ∨ d = .tuple [.str "number", .int v, .int w] ∨
    ∃ (z : Str) (hd subs : List PyData) (ws us : List Int), d = .tuple (.str z :: (hd ++ subs)) ∧ Ev z hd ws us w v ∧ subs.length = ws.length ∧ (∀ a ∈ ws, 1 ≤ a ∧ a ≤ 8) ∧ ∀ (i : Nat) (s : PyData), subs[i]? = some s → ∃ (a x : Int), ws[i]? = some a ∧ us[i]? = some x ∧ Mr wk nk n s a x)
theorem Mr.rng {wk nk : List (Key × V)} {n : Nat} {d : PyData} {w v : Int} (h : Mr wk nk n d w v) : (1 ≤ w ∧ w ≤ 8) ∧ Rng w.toNat v := by
  cases n with
  | zero => exact h.elim
  | succ n => exact ⟨h.1, h.2.1⟩
theorem Mr.ms {wk nk : List (Key × V)} {n : Nat} {d : PyData} {w v : Int} (h : Mr wk nk n d w v) : Ms wk nk n d w v := by
  induction n generalizing d w v with
  | zero => exact h.elim
  | succ n ih =>
    obtain ⟨hw, hr, h⟩ := h
    refine ⟨hw, ?_⟩
    rcases h with h | h | ⟨z, hd, subs, ws, us, e, ev, hl, hb, hs⟩
    · exact .inl h
    · exact .inr (.inl h)
    · refine .inr (.inr ⟨z, hd, subs, ws, us, e, ev, hl, hb, fun i s hi => ?_⟩)
      obtain ⟨a, x, h1, h2, h3⟩ := hs i s hi
      exact ⟨a, x, h1, h2, ih h3⟩
theorem Mr.tup {wk nk : List (Key × V)} {n : Nat} {d : PyData} {w v : Int} (h : Mr wk nk n d w v) : ∃ z rest, d = .tuple (.str z :: rest) := by
  cases n with
  | zero => exact h.elim
  | succ n =>
    obtain ⟨_, _, h⟩ := h
    rcases h with ⟨x, rfl, _⟩ | rfl | ⟨z, hd, subs, ws, us, rfl, _⟩
    · exact ⟨_, _, rfl⟩
    · exact ⟨_, _, rfl⟩
    · exact ⟨_, _, rfl⟩
theorem Tp.mr {wk nk : List (Key × V)} {kv : Str → Option Int} (kw : KW wk kv) (hn : ∀ x w, kv x = some w → ∃ i, valV nk (.inr x) = some (.int i) ∧ Rng w.toNat i) {n : Nat} {d : PyData} {w : Int} (h : Tp kv n d w) : ∃ v, Mr wk nk n d w v := by
  induction n generalizing d w with
  | zero => exact h.elim
  | succ n ih =>
    obtain ⟨hw, h⟩ := h
    rcases h with ⟨x, rfl, e⟩ | ⟨i, rfl, hi⟩ | ⟨z, hd, subs, ws, rfl, et, hl, hb, hs⟩
    · obtain ⟨i, h1, h2⟩ := hn x w e
      exact ⟨i, hw, h2, .inl ⟨x, rfl, by rw [kw.1 x, e]; rfl, h1⟩⟩
    · exact ⟨i, hw, hi, .inr (.inl rfl)⟩
    · have key : ∀ (ss : List PyData) (as : List Int), ss.length = as.length → (∀ (i : Nat) (s : PyData), ss[i]? = some s → ∃ a : Int, as[i]? = some a ∧ Tp kv n s a) → ∃ us : List Int, us.length = as.length ∧ ∀ (i : Nat) (s : PyData), ss[i]? = some s → ∃ (a x : Int), as[i]? = some a ∧ us[i]? = some x ∧ Mr wk nk n s a x := by
        intro ss
        induction ss with
        | nil => exact fun as e _ => ⟨[], by rw [← e]; rfl, fun i s h => by cases h⟩
        | cons t rest iht =>
          intro as e hh
          match as, e with
          | a :: as, e =>
            obtain ⟨a', ea, ht⟩ := hh 0 t rfl
            cases ea
            obtain ⟨v, hv⟩ := ih ht
            obtain ⟨us, h1, h2⟩ := iht as (by simpa using e) fun i s h => hh (i + 1) s h
            refine ⟨v :: us, by simp [h1], fun i s h => ?_⟩
            cases i with
            | zero => cases h; exact ⟨a, v, rfl, rfl, hv⟩
            | succ i => exact h2 i s h
      obtain ⟨us, hul, hus⟩ := key subs ws hl hs
      obtain ⟨v, ev, hv⟩ := et.ev hul hb fun i a x h1 h2 => by
        have hi : i < subs.length := by rw [hl]; exact (List.getElem?_eq_some_iff.mp h1).1
        obtain ⟨a', x', e1, e2, hm⟩ := hus i _ (List.getElem?_eq_getElem hi)
        rw [h1] at e1; cases e1
        rw [h2] at e2; cases e2
        exact hm.rng.2
      exact ⟨v, hw, hv, .inr (.inr ⟨z, hd, subs, ws, us, rfl, ev, hl, hb, hus⟩)⟩
theorem ev_hd {z : Str} {hd : List PyData} {ws us : List Int} {w v : Int} (h : Ev z hd ws us w v) {d : PyData} (hd' : d ∈ hd) : dTup d = false ∨ ∃ ns : List Int, ∃ n0 : Int, d = .tuple ((n0 :: ns).map PyData.int) := by
  cases h with
  | up k => rw [List.mem_singleton.mp hd']; exact .inl rfl
  | down k => rw [List.mem_singleton.mp hd']; exact .inl rfl
  | cut f w _ =>
    simp only [List.mem_cons, List.not_mem_nil, or_false] at hd'
    rcases hd' with rfl | rfl <;> exact .inl rfl
  | table w a x ns h4 hl =>
    simp only [List.mem_cons, List.not_mem_nil, or_false] at hd'
    rcases hd' with rfl | rfl
    · exact .inl rfl
    · have hp := pow_pos2 a.toNat
      match ns, hl with
      | [], hl => exact absurd hl (by simp; omega)
      | n0 :: ns, _ => exact .inr ⟨ns, n0, rfl⟩
  | _ => cases hd'
def bits (w x : Int) : List V := (btn w.toNat x.toNat).map V.int
theorem bits_len {w x : Int} : (bits w x).length = w.toNat := by unfold bits; rw [List.length_map, btn_len]
theorem bits_at {w x : Int} {i : Nat} (h : i < w.toNat) : (bits w x)[i]? = some (.int ((bt x.toNat i : Nat) : Int)) := by
  unfold bits
  rw [List.getElem?_map, btn_get h]
  rfl
theorem bits_ext {w x : Int} {ys : List V} (h1 : ys.length = w.toNat) (h2 : ∀ i, i < w.toNat → ys[i]? = some (.int ((bt x.toNat i : Nat) : Int))) : ys = bits w x := by
  apply List.ext_getElem?
  intro i
  by_cases h : i < w.toNat
  · rw [h2 i h, bits_at h]
  · rw [List.getElem?_eq_none (by omega), List.getElem?_eq_none (by rw [bits_len]; omega)]
theorem bit_val {X i : Nat} : Builtin.bitAnd ((X : Int) / 2 ^ (0 + (i : Int)).toNat) 1 = ((bt X i : Nat) : Int) := by
  rw [show (0 + (i : Int)).toNat = i by omega, cast_pow, ← Int.natCast_ediv, show (1 : Int) = ((1 : Nat) : Int) from rfl, and_nat, Nat.and_one_is_mod]
  rfl
theorem bits_same {n : Nat} {X : Nat} {v : Int} (h : v = ((X : Nat) : Int) % ((2 ^ n : Nat) : Int)) : bits (n : Int) (X : Int) = bits (n : Int) v := by
  rw [h, ← Int.natCast_emod]
  unfold bits
  rw [Int.toNat_natCast, Int.toNat_natCast, Int.toNat_natCast, btn_mod]
def neg1 : V → V
  | .int b => .int (1 - b)
  | v => v
theorem bits_int {w x : Int} {u : V} (h : u ∈ bits w x) : ∃ i, u = .int i := by
  obtain ⟨i, _, rfl⟩ := List.mem_map.mp h
  exact ⟨i, rfl⟩
theorem neg_bits {n X : Nat} (h : X < 2 ^ n) : (bits (n : Int) (X : Int)).map neg1 = bits (n : Int) ((2 ^ n - (X + 1) : Nat) : Int) := by
  unfold bits
  rw [Int.toNat_natCast, Int.toNat_natCast, Int.toNat_natCast, ← row_not h, List.map_map, List.map_map]
  rfl
theorem max_bt (a b : Nat) : (if ((b : Nat) : Int) > ((a : Nat) : Int) then ((b : Nat) : Int) else ((a : Nat) : Int)) = ((if b > a then b else a : Nat) : Int) := by
  split <;> split <;> omega
theorem ne_bt (a b : Nat) : (if (!decide (V.int ((a : Nat) : Int) = V.int ((b : Nat) : Int))) = true then (1 : Int) else 0) = ((if a = b then 0 else 1 : Nat) : Int) := by
  by_cases h : a = b
  · subst h; simp
  · rw [if_neg h, decide_eq_false (by intro e; injection e with e; omega)]
    rfl
theorem _root_.L2.Same.upd {H H' : Hp} {p : Addr} (s : Same H H') (hp : H p = none) (o : HO) : Same H (L2.upd H' p o) := fun c u e => by
  rw [upd_ne (ne_of_none e hp)]
  exact s _ _ e
theorem rep_zero (k : Nat) : (List.replicate k [V.int 0]).flatten = (List.replicate k (0 : Int)).map V.int := by
  rw [List.map_replicate, List.flatten_replicate_singleton]
theorem cut_mid {xs : List V} {f m : Nat} (h : f + m ≤ xs.length) : cutV xs (some (f : Int)) (some ((f : Int) + (m : Int))) = (xs.drop f).take m := by
  unfold cutV
  rw [show ((f : Int) + (m : Int)) = ((f + m : Nat) : Int) by omega, HT.sIx_nat, HT.sIx_nat, Nat.min_eq_left (show f ≤ xs.length by omega), Nat.min_eq_left h]
  congr 1
  omega
/-- a width over its widths, as the law draws them -/
inductive Wt (w : Int) : Str → List Int → Prop
  | choice : Wt w "choice" [1, w, w]
  | under (a : Int) (h1 : 1 ≤ a) (h8 : a ≤ 8) (hw : w = 1) : Wt w "under" [a, a]
  | same (a : Int) (h1 : 1 ≤ a) (h8 : a ≤ 8) (hw : w = 1) : Wt w "same" [a, a]
  | join (a : Int) (h1 : 1 ≤ a) (h8 : a < w) : Wt w "join" [a, w - a]
  | cut (a : Int) (h1 : w ≤ a) (h8 : a ≤ 8) : Wt w "cut" [a]
  | table (a : Int) (h1 : 1 ≤ a) (h4 : a ≤ 4) : Wt w "table" [a]
  | not : Wt w "not" [w]
  | up : Wt w "up" [w]
  | down : Wt w "down" [w]
  | and : Wt w "and" [w, w]
  | or : Wt w "or" [w, w]
  | odd : Wt w "odd" [w, w]
  | sum : Wt w "sum" [w, w]
  | less : Wt w "less" [w, w]
theorem Wt.bound {w : Int} {z : Str} {ws : List Int} (h : Wt w z ws) (hw : 1 ≤ w ∧ w ≤ 8) : (∀ a ∈ ws, 1 ≤ a ∧ a ≤ 8) ∧ ws.length = wantN z := by
  cases h <;> (refine ⟨fun b hb => ?_, rfl⟩; simp only [List.mem_cons, List.not_mem_nil, or_false] at hb; omega)
theorem Wt.et {w : Int} {z : Str} {ws : List Int} (h : Wt w z ws) (hw : 1 ≤ w ∧ w ≤ 8) (h1 : z ≠ "cut") (h2 : z ≠ "table") (h3 : z ≠ "up") (h4 : z ≠ "down") : Et z [] ws w := by
  cases h with
  | choice => exact .choice w
  | under a _ _ e => subst e; exact .under a
  | same a _ _ e => subst e; exact .same a
  | join a _ _ =>
    have := Et.join a (w - a) (by omega)
    rw [show a + (w - a) = w by omega] at this
    exact this
  | cut => exact absurd rfl h1
  | table => exact absurd rfl h2
  | not => exact .not w
  | up => exact absurd rfl h3
  | down => exact absurd rfl h4
  | and => exact .and w
  | or => exact .or w
  | odd => exact .odd w
  | sum => exact .sum w
  | less => exact .less w
def word13 : List Str := ["not", "and", "or", "odd", "sum", "less", "up", "down", "cut", "table", "choice", "", ""]
def wordsW (w : Int) : List Str := word13 ++ (if w = 1 then (["under", "same"] : List Str) else ["join"])
/-- the words that the width lets by -/
def OkW (w : Int) (z : Str) : Prop := z ∈ (["not", "and", "or", "odd", "sum", "less", "up", "down", "cut", "table", "choice"] : List Str) ∨ ((z = "under" ∨ z = "same") ∧ w = 1) ∨ (z = "join" ∧ w ≠ 1)
theorem wordsW_in {w : Int} {z : Str} (h : z ∈ wordsW w) (h0 : z ≠ "") : OkW w z := by
  unfold wordsW at h
  rcases List.mem_append.mp h with h | h
  · left
    simp only [word13, List.mem_cons, List.not_mem_nil, or_false] at h ⊢
    rcases h with h | h | h | h | h | h | h | h | h | h | h | h | h <;> first | exact absurd h h0 | simp [h]
  · by_cases hw : w = 1
    · rw [if_pos hw] at h
      simp only [List.mem_cons, List.not_mem_nil, or_false] at h
      exact .inr (.inl ⟨h, hw⟩)
    · rw [if_neg hw] at h
      exact .inr (.inr ⟨List.mem_singleton.mp h, hw⟩)
def manyKV : List (Key × V) := [(.inr "choice", .int 3), (.inr "not", .int 1), (.inr "up", .int 1), (.inr "down", .int 1), (.inr "cut", .int 1), (.inr "table", .int 1)]
theorem many_val (z : Str) : (valV manyKV (.inr z)).getD (.int 2) = .int ((wantN z : Nat) : Int) := by
  unfold wantN
  by_cases h1 : z = "choice"
  · subst h1; rfl
  by_cases h2 : z = "not"
  · subst h2; rfl
  by_cases h3 : z = "up"
  · subst h3; rfl
  by_cases h4 : z = "down"
  · subst h4; rfl
  by_cases h5 : z = "cut"
  · subst h5; rfl
  by_cases h6 : z = "table"
  · subst h6; rfl
  rw [if_neg h1, if_neg (by simp [h2, h3, h4, h5, h6])]
  have e : valV manyKV (.inr z) = none := by
    unfold valV manyKV
    have n : ∀ y : Str, z ≠ y → ¬ ((Sum.inr y : Key) = Sum.inr z) := fun y h e => h (Sum.inr.inj e).symm
    simp [n _ h1, n _ h2, n _ h3, n _ h4, n _ h5, n _ h6, Ne.symm h1, Ne.symm h2, Ne.symm h3, Ne.symm h4, Ne.symm h5, Ne.symm h6]
  rw [e]
  rfl
def DG (kvs : List (Key × V)) : Prop := (∀ kv ∈ kvs, ∃ i, kv.2 = V.int i) ∧ ∀ kv ∈ kvs, valV kvs kv.1 = some kv.2
theorem DG.nil : DG [] := ⟨(fun _ h => nomatch h), fun _ h => nomatch h⟩
theorem DG.put {kvs : List (Key × V)} (h : DG kvs) (k : Key) (i : Int) : DG (putK kvs k (.int i)) := by
  refine ⟨fun kv hkv => ?_, fun kv hkv => ?_⟩
  · rcases mem_putK hkv with e | ⟨e, _⟩
    · exact ⟨i, by rw [e]⟩
    · exact h.1 kv e
  · rw [valV_put]
    rcases mem_putK hkv with e | ⟨e, n⟩
    · rw [e, if_pos rfl]
    · rw [if_neg n]; exact h.2 kv e
theorem bgFree {l p : Addr} {H H1 : Hp} (g : Bg l H H1) (hp : H1 p = none) : p ≠ l ∧ H p = none := by
  have npl : p ≠ l := g.2.ne hp
  refine ⟨npl, ?_⟩
  cases hh : H p with
  | none => rfl
  | some o => rw [g.1 p o npl hh] at hp; cases hp
theorem at0 {xs : List V} {i : Nat} {v : V} (h : xs[i]? = some v) : atI xs (0 + (i : Int)) = some v := by rw [Int.zero_add]; exact atI_nat h
def sp_L_leaf : Sp := fun vs H Q _ => ∃ (l wd : Addr) (o : Obj) (kvs : List (Key × V)) (kv : Str → Option Int) (w : Int), vs = [.ref l, .ref wd, .int w] ∧ Bag H l ∧ H wd = some (.frz o (.dK kvs)) ∧ KW kvs kv ∧ GoodD kvs 6 ∧ 1 ≤ w ∧ w ≤ 8 ∧ ∀ d v H', Tp kv 1 d w → Dat H' d v → Bg l H H' → Q v H'
def sp_L_wants : Sp := fun vs H Q _ => ∃ (l : Addr) (z : Str) (w : Int), vs = [.ref l, .str z, .int w] ∧ Bag H l ∧ 1 ≤ w ∧ w ≤ 8 ∧ OkW w z ∧ ∀ p (ws : List Int) H', H p = none → p ≠ l → Bg l H H' → H' p = some (.lst (ws.map V.int)) → Wt w z ws → Q (.ref p) H'
def sp_typed (n : Nat) : Sp := fun vs H Q _ => ∃ (l wd : Addr) (o : Obj) (kvs : List (Key × V)) (kv : Str → Option Int) (w room : Int), vs = [.ref l, .ref wd, .int w, .int n, .int room] ∧ 1 ≤ n ∧ Bag H l ∧ H wd = some (.frz o (.dK kvs)) ∧ KW kvs kv ∧ GoodD kvs 6 ∧ 1 ≤ w ∧ w ≤ 8 ∧ room ≤ 1001 ∧ ∀ d v H', Tp kv n d w → Dat H' d v → Bg l H H' → Q v H'
def sp_L_row : Sp := fun vs H Q _ => ∃ x w : Int, vs = [.int x, .int w] ∧ 0 ≤ x ∧ 0 ≤ w ∧ w ≤ 8 ∧ ∀ p, H p = none → Q (.ref p) (upd H p (.lst (bits w x)))
def sp_L_summed : Sp := fun vs H Q _ => ∃ (po pt : Addr) (n x y c : Nat), vs = [.ref po, .ref pt, .int c] ∧ H po = some (.lst (bits n x)) ∧ H pt = some (.lst (bits n y)) ∧ n ≤ 8 ∧ ∀ p H', H p = none → Same H H' → H' p = some (.lst (bits n ((x + y + c : Nat) : Int))) → Q (.ref p) H'
def sp_L_of_two : Sp := fun vs H Q _ => ∃ (z : Str) (po pt : Addr) (a b x y w v : Int), vs = [.str z, .ref po, .ref pt] ∧ H po = some (.lst (bits a x)) ∧ H pt = some (.lst (bits b y)) ∧ Ev z [] [a, b] [x, y] w v ∧ Rng a.toNat x ∧ Rng b.toNat y ∧ (1 ≤ a ∧ a ≤ 8) ∧ (1 ≤ b ∧ b ≤ 8) ∧ ∀ p H', H p = none → Same H H' → H' p = some (.lst (bits w v)) → Q (.ref p) H'
def sp_lw (n : Nat) : Sp := fun vs H Q _ => ∃ (d : PyData) (v : V) (wd nd : Addr) (wk nk : List (Key × V)) (w x : Int), vs = [v, .ref wd, .ref nd] ∧ Dat H d v ∧ Rd H wd (.dK wk) ∧ Rd H nd (.dK nk) ∧ Mr wk nk n d w x ∧ ∀ p H', H p = none → Same H H' → H' p = some (.lst (bits w x)) → Q (.ref p) H'
def sp_L_good : Sp := fun vs H Q _ => ∃ (d : PyData) (v : V) (wd nd : Addr) (wk nk : List (Key × V)) (w x : Int), vs = [v, .ref wd, .ref nd] ∧ Dat H d v ∧ Rd H wd (.dK wk) ∧ Rd H nd (.dK nk) ∧ Mr wk nk 6 d w x ∧ DG wk ∧ DG nk ∧ ∀ H', Same H H' → Q (.bl true) H'

/-- what the top has written -/
structure Tx (w : World) (K : PySem.W.Frag) (mg : Str → Option Value) (A : Ad) : Prop where
  abs : mg "abs" = none
  bool : mg "bool" = none
  dict : mg "dict" = none
  int : mg "int" = none
  isinstance : mg "isinstance" = none
  len : mg "len" = none
  max : mg "max" = none
  min : mg "min" = none
  range : mg "range" = none
  str : mg "str" = none
  sum : mg "sum" = none
  tuple : mg "tuple" = none
  zip : mg "zip" = none
  g_MOST_WIDTH : ∃ t, mg "MOST_WIDTH" = some (.int 8 t)
  g_FORMS : mg "FORMS" = some (.ref A.a_FORMS)
  D_FORMS : ∃ kvs, TopD w K A.a_FORMS kvs ∧ ∀ z ∈ words, ∃ p, kvs.lookup z = some (.ref p) ∧ ∀ H, SqT K H p [.int (formN z), .int (formK z)]
  g_MOST_TABLE_WIDTH : ∃ t, mg "MOST_TABLE_WIDTH" = some (.int 4 t)
  F_two_to : Fun K "two_to" "two_to" s_two_to A.a_two_to A.d_two_to
  B_two_to : Binds K A.d_two_to ["many"] []
  M_two_to : mg "two_to" = some (.ref A.a_two_to)
  F_sayings_in : Fun K "sayings_in" "sayings_in" s_sayings_in A.a_sayings_in A.d_sayings_in
  B_sayings_in : Binds K A.d_sayings_in ["saying"] []
  M_sayings_in : mg "sayings_in" = some (.ref A.a_sayings_in)
  F_width_over : Fun K "width_over" "width_over" s_width_over A.a_width_over A.d_width_over
  B_width_over : Binds K A.d_width_over ["saying", "inner"] []
  M_width_over : mg "width_over" = some (.ref A.a_width_over)
  F_worth : Fun K "worth" "worth" s_worth A.a_worth A.d_worth
  B_worth : Binds K A.d_worth ["saying", "widths", "numbers"] []
  M_worth : mg "worth" = some (.ref A.a_worth)
  F_measured : Fun K "measured" "measured" s_measured A.a_measured A.d_measured
  B_measured : Binds K A.d_measured ["saying", "widths", "numbers"] []
  M_measured : mg "measured" = some (.ref A.a_measured)
  F_worth_of_one : Fun K "worth_of_one" "worth_of_one" s_worth_of_one A.a_worth_of_one A.d_worth_of_one
  B_worth_of_one : Binds K A.d_worth_of_one ["saying", "width", "a"] []
  M_worth_of_one : mg "worth_of_one" = some (.ref A.a_worth_of_one)
  F_worth_of_two : Fun K "worth_of_two" "worth_of_two" s_worth_of_two A.a_worth_of_two A.d_worth_of_two
  B_worth_of_two : Binds K A.d_worth_of_two ["word", "width", "a", "b"] []
  M_worth_of_two : mg "worth_of_two" = some (.ref A.a_worth_of_two)
  F_L_bag : Fun K "_law_bag" "_law_bag" s_L_bag A.a_L_bag A.d_L_bag
  B_L_bag : Binds K A.d_L_bag ["_law_script", "_law_at"] []
  M_L_bag : mg "_law_bag" = some (.ref A.a_L_bag)
  F_L_take : Fun K "_law_take" "_law_take" s_L_take A.a_L_take A.d_L_take
  B_L_take : Binds K A.d_L_take ["_law_bag_here", "_law_many"] []
  M_L_take : mg "_law_take" = some (.ref A.a_L_take)
  F_L_names : Fun K "_law_names" "_law_names" s_L_names A.a_L_names A.d_L_names
  B_L_names : Binds K A.d_L_names ["_law_bag_here"] []
  M_L_names : mg "_law_names" = some (.ref A.a_L_names)
  F_L_rooms : Fun K "_law_rooms" "_law_rooms" s_L_rooms A.a_L_rooms A.d_L_rooms
  B_L_rooms : Binds K A.d_L_rooms ["_law_bag_here", "_law_room", "_law_many"] []
  M_L_rooms : mg "_law_rooms" = some (.ref A.a_L_rooms)
  F_L_leaf : Fun K "_law_leaf" "_law_leaf" s_L_leaf A.a_L_leaf A.d_L_leaf
  B_L_leaf : Binds K A.d_L_leaf ["_law_bag_here", "_law_widths", "_law_width"] []
  M_L_leaf : mg "_law_leaf" = some (.ref A.a_L_leaf)
  F_L_wants : Fun K "_law_wants" "_law_wants" s_L_wants A.a_L_wants A.d_L_wants
  B_L_wants : Binds K A.d_L_wants ["_law_bag_here", "_law_word", "_law_width"] []
  M_L_wants : mg "_law_wants" = some (.ref A.a_L_wants)
  F_L_typed : Fun K "_law_typed" "_law_typed" s_L_typed A.a_L_typed A.d_L_typed
  B_L_typed : Binds K A.d_L_typed ["_law_bag_here", "_law_widths", "_law_width", "_law_deep", "_law_room"] []
  M_L_typed : mg "_law_typed" = some (.ref A.a_L_typed)
  F_L_row : Fun K "_law_row" "_law_row" s_L_row A.a_L_row A.d_L_row
  B_L_row : Binds K A.d_L_row ["_law_number", "_law_width"] []
  M_L_row : mg "_law_row" = some (.ref A.a_L_row)
  F_L_summed : Fun K "_law_summed" "_law_summed" s_L_summed A.a_L_summed A.d_L_summed
  B_L_summed : Binds K A.d_L_summed ["_law_one", "_law_other", "_law_carry"] []
  M_L_summed : mg "_law_summed" = some (.ref A.a_L_summed)
  F_L_of_two : Fun K "_law_of_two" "_law_of_two" s_L_of_two A.a_L_of_two A.d_L_of_two
  B_L_of_two : Binds K A.d_L_of_two ["_law_word", "_law_one", "_law_other"] []
  M_L_of_two : mg "_law_of_two" = some (.ref A.a_L_of_two)
  F_L_worth : Fun K "_law_worth" "_law_worth" s_L_worth A.a_L_worth A.d_L_worth
  B_L_worth : Binds K A.d_L_worth ["_law_saying", "_law_widths", "_law_numbers"] []
  M_L_worth : mg "_law_worth" = some (.ref A.a_L_worth)
  F_L_good : Fun K "_law_good" "_law_good" s_L_good A.a_L_good A.d_L_good
  B_L_good : Binds K A.d_L_good ["_law_saying", "_law_widths", "_law_numbers"] []
  M_L_good : mg "_law_good" = some (.ref A.a_L_good)
  F_law : Fun K "law" "law" s_law A.a_law A.d_law
  B_law : Binds K A.d_law ["_law_script"] []
  M_law : mg "law" = some (.ref A.a_law)
section
variable {P : Program} {w : World} {K : PySem.W.Frag} {mg : Str → Option Value} {base : Heap} {A : Ad}
seal L2.PE L2.PA L2.PT L2.PS L2.PSs
theorem ok_two_to (T : Tx w K mg A) : FnOk P w K mg base CX0 1 A.a_two_to A.d_two_to ["many"] sp_two_to := by
  refine T.F_two_to.ok sc_two_to (fun vs H Q E h => ?_) (fun cdv A' outer s H vs Q E hr h => ?_)
  · obtain ⟨m, rfl, m0, m1, q⟩ := h
    rfl
  obtain ⟨m, rfl, m0, m1, q⟩ := h
  refine ⟨_, (pss_cons (ps_set (i := 1) sc_two_to.nd rfl (Or.inl rfl) pe_int)
    (pss_cons (ps_for PassesOwn.never rfl (pi_range1 rfl T.range (pa_cons (pv 0) pa_nil)) (pg_name (i := 2) sc_two_to.nd rfl (Or.inl rfl))
        (pss_one (ps_set (i := 1) sc_two_to.nd rfl (Or.inl rfl) (pe_op op_mul (pv 1) pe_int))))
    (pss_one (ps_ret (pv 1))))), ?_⟩
  obtain ⟨m, rfl⟩ := Int.eq_ofNat_of_zero_le m0
  refine ⟨_, rfl, _, rfl, by omega, by omega, for_range (lo := 0) (fun i σ H' => ∃ x, σ = [some (.int m), some (.int (2 ^ i)), x] ∧ H = H') ⟨_, rfl, rfl⟩ ?_ ?_⟩
  · rintro i σ H' hi ⟨x, rfl, rfl⟩
    refine ⟨_, rfl, _, _, rfl, rfl, .inr ⟨by decide, by decide⟩, ?_⟩
    exact ⟨some (.int (0 + (i : Int))), (show [some (V.int m), some (.int ((2 : Int) ^ i * 2)), some (.int (0 + (i : Int)))] = _ by rw [← Int.pow_succ]), rfl⟩
  · rintro σ H' ⟨x, rfl, rfl⟩
    exact ⟨_, rfl, q⟩
theorem ok_sayings_in (T : Tx w K mg A) : FnOk P w K mg base CX0 1 A.a_sayings_in A.d_sayings_in ["saying"] sp_sayings_in := by
  refine T.F_sayings_in.ok sc_sayings_in (fun vs H Q E h => ?_) (fun cdv A' outer s H vs Q E hr h => ?_)
  · obtain ⟨z, hd, subs, v, rfl, hz, hk, hl2, hD, q⟩ := h
    rfl
  obtain ⟨z, hd, subs, v, rfl, hz, hk, hl2, hD, q⟩ := h
  obtain ⟨kvs, D_FORMS, hkvs⟩ := T.D_FORMS
  refine ⟨_, (pss_one (ps_ret (pe_slice sl_tupE (pv 0) (po_some (pe_ix ix_tup (pe_ix (ix_top D_FORMS) (pe_glob (v := .ref A.a_FORMS) rfl T.g_FORMS rfl) (pe_ix ix_tup (pv 0) pe_int (fun _ _ => rfl)) (fun _ _ => rfl)) pe_int (fun _ _ => rfl))) po_none))), ?_⟩
  obtain ⟨p, xs, rfl, hp, hxs⟩ := hD.tupI
  obtain ⟨x0, r0, rfl, h0, hr0⟩ := hxs.consI
  have e0 : x0 = .str z := by unfold Dat at h0; exact h0
  subst e0
  obtain ⟨pf, hlk, hpf⟩ := hkvs z hz
  have hlen := hr0.length
  rw [List.length_append] at hlen
  refine ⟨_, rfl, _, rfl, p, _, _, _, rfl, rfl, SqT.of hp, (show atI _ ((0 : Nat) : Int) = _ from atI_nat rfl), _, _, rfl, rfl, hlk, pf, _, _, _, rfl, rfl, hpf H, rfl, _, rfl, p, _, rfl, hp, fun p2 H2 s2 f2 => ?_⟩
  have hcut : cutV (V.str z :: r0) (some ((formK z : Nat) : Int)) none = r0.drop hd.length := by
    rw [cut_from (by rw [List.length_cons, hk]; omega), hk]
    rfl
  rw [hcut] at f2
  refine q p2 _ H2 s2 f2 ?_
  have := (hr0.same s2).drop hd.length
  rw [List.drop_left] at this
  exact this
theorem ok_width_over (T : Tx w K mg A) (G_two_to : FnOk P w K mg base CX0 1 A.a_two_to A.d_two_to ["many"] sp_two_to) : FnOk P w K mg base CX0 2 A.a_width_over A.d_width_over ["saying", "inner"] sp_width_over := by
  refine T.F_width_over.ok sc_width_over (fun vs H Q E h => ?_) (fun cdv A' outer s H vs Q E hr h => ?_)
  · obtain ⟨z, hd, subs, v, pi, ws, us, w, val, rfl, hD, hpi, ev, hws, q⟩ := h
    rfl
  obtain ⟨z, hd, subs, v, pi, ws, us, w, val, rfl, hD, hpi, ev, hws, q⟩ := h
  obtain ⟨t_MOST_WIDTH, g_MOST_WIDTH⟩ := T.g_MOST_WIDTH
  obtain ⟨t_MOST_TABLE_WIDTH, g_MOST_TABLE_WIDTH⟩ := T.g_MOST_TABLE_WIDTH
  refine ⟨_, (pss_cons (ps_set (i := 2) sc_width_over.nd rfl (Or.inl rfl) (pe_ix ix_tup (pv 0) pe_int (fun _ _ => rfl)))
    (pss_cons (ps_if (pt_cmpR op_in_seq (pv 2) (pe_tup (pa_consts rfl)) rfl) (pss_one (ps_ret (pe_ix ix_list (pv 1) pe_int (fun _ _ => rfl)))) pss_nil)
    (pss_cons (ps_if (pt_cmpR op_eq (pv 2) pe_str (nomark _)) (pss_cons (ps_set (i := 3) sc_width_over.nd rfl (Or.inl rfl) (pe_op op_add (pe_ix ix_list (pv 1) pe_int (fun _ _ => rfl)) (pe_ix ix_list (pv 1) pe_int (fun _ _ => rfl))))
    (pss_one (ps_ret (pe_ifExp (pt_cmpR op_le (pv 3) (pe_glob (v := .int 8) rfl g_MOST_WIDTH ⟨_, rfl⟩) (nomark _)) (pv 3) pe_non)))) pss_nil)
    (pss_cons (ps_if (pt_cmpR op_eq (pv 2) pe_str (nomark _)) (pss_one (ps_ret (pe_ifExp (pt_cmpR op_le (pe_op op_add (pe_ix ix_tup (pv 0) pe_int (fun _ _ => rfl)) (pe_ix ix_tup (pv 0) pe_int (fun _ _ => rfl))) (pe_ix ix_list (pv 1) pe_int (fun _ _ => rfl)) (nomark _)) (pe_ix ix_tup (pv 0) pe_int (fun _ _ => rfl)) pe_non))) pss_nil)
    (pss_cons (ps_if (pt_cmpR op_eq (pv 2) pe_str (nomark _)) (pss_cons (ps_set (i := 4) sc_width_over.nd rfl (Or.inl rfl) (pe_and (pe_cmpR op_le (pe_ix ix_list (pv 1) pe_int (fun _ _ => rfl)) (pe_glob (v := .int 4) rfl g_MOST_TABLE_WIDTH ⟨_, rfl⟩) (nomark _)) (pe_one (pe_cmpR op_eq (pe_callB call_len rfl T.len PySem.boot_len (pa_cons (pe_ix ix_tup (pv 0) pe_int (fun _ _ => rfl)) pa_nil)) (pe_call G_two_to (hr.mono (by first | decide | omega)) rfl T.M_two_to T.F_two_to.kp T.B_two_to .nil pass0 (pa_cons (pe_ix ix_list (pv 1) pe_int (fun _ _ => rfl)) pa_nil)) (nomark _)))))
    (pss_one (ps_ret (pe_ifExp (pt_truth (pv 4) (fun _ => rfl)) (pe_ix ix_tup (pv 0) pe_int (fun _ _ => rfl)) pe_non)))) pss_nil)
    (pss_cons (ps_if (pt_cmpR op_eq (pv 2) pe_str (nomark _)) (pss_one (ps_ret (pe_ifExp (PW.pt (pw_and (pt_cmpR op_eq (pe_ix ix_list (pv 1) pe_int (fun _ _ => rfl)) pe_int (nomark _)) (pw_and1 (pt_cmpR op_eq (pe_ix ix_list (pv 1) pe_int (fun _ _ => rfl)) (pe_ix ix_list (pv 1) pe_int (fun _ _ => rfl)) (nomark _))))) (pe_ix ix_list (pv 1) pe_int (fun _ _ => rfl)) pe_non))) pss_nil)
    (pss_cons (ps_if (pt_cmpR op_ne (pe_ix ix_list (pv 1) pe_int (fun _ _ => rfl)) (pe_ix ix_list (pv 1) pe_int (fun _ _ => rfl)) (nomark _)) (pss_one (ps_ret pe_non)) pss_nil)
    (pss_one (ps_ret (pe_ifExp (pt_cmpR op_in_seq (pv 2) (pe_tup (pa_cons pe_str (pa_cons pe_str pa_nil))) rfl) pe_int (pe_ix ix_list (pv 1) pe_int (fun _ _ => rfl)))))))))))), ?_⟩
  obtain ⟨p, xs, rfl, hp, hxs⟩ := hD.tupI
  obtain ⟨x0, r0, rfl, h0, hr0⟩ := hxs.consI
  have e0 : x0 = .str z := by unfold Dat at h0; exact h0
  subst e0
  refine ⟨_, rfl, p, _, _, _, rfl, rfl, SqT.of hp, (show atI _ ((0 : Nat) : Int) = _ from atI_nat rfl), ?_⟩
  refine ⟨_, rfl, (by show 3 ≤ sizeLine; decide), fun p1 hp1 => ?_⟩
  have t1 := same_new hp1 (.tup [.str "not", .str "up", .str "down"])
  have hp1' := t1 _ _ hp
  have hpi1 := t1 _ _ hpi
  refine ⟨p1, _, rfl, .inr (SqT.of upd_same), rfl, rfl, _, rfl, ?_⟩
  cases ev with
  | not => exact ite_t (by decide) ⟨_, rfl, pi, _, _, _, rfl, rfl, SqL.of hpi1, rfl, q _ t1⟩
  | up => exact ite_t (by decide) ⟨_, rfl, pi, _, _, _, rfl, rfl, SqL.of hpi1, rfl, q _ t1⟩
  | down => exact ite_t (by decide) ⟨_, rfl, pi, _, _, _, rfl, rfl, SqL.of hpi1, rfl, q _ t1⟩
  | join a b x y h =>
    refine ite_f (by decide) ⟨_, rfl, rfl, _, rfl, ?_⟩
    refine ite_t (by decide) ?_
    refine ⟨_, rfl, pi, _, _, _, rfl, rfl, SqL.of hpi1, rfl, _, rfl, pi, _, _, _, rfl, rfl, SqL.of hpi1, rfl, _, _, rfl, rfl, ?_⟩
    refine ⟨_, rfl, _, _, rfl, rfl, _, rfl, ?_⟩
    exact ite_t (decide_eq_true h) ⟨_, rfl, q _ t1⟩
  | cut f w' a x h0 h1 h =>
    obtain ⟨x1, r1, rfl, hx1, hr1⟩ := hr0.consI
    obtain ⟨x2, r2, rfl, hx2, hr2⟩ := hr1.consI
    have e1 := hx1.intI
    have e2 := hx2.intI
    subst e1 e2
    refine ite_f (by decide) ⟨_, rfl, rfl, _, rfl, ?_⟩
    refine ite_f (by decide) ⟨_, rfl, rfl, _, rfl, ?_⟩
    refine ite_t (by decide) ?_
    refine ⟨_, rfl, p, _, _, _, rfl, rfl, SqT.of hp1', (show atI _ ((1 : Nat) : Int) = _ from atI_nat rfl), _, rfl, p, _, _, _, rfl, rfl, SqT.of hp1', (show atI _ ((2 : Nat) : Int) = _ from atI_nat rfl), _, _, rfl, rfl, _, rfl, pi, _, _, _, rfl, rfl, SqL.of hpi1, rfl, _, _, rfl, rfl, _, rfl, ?_⟩
    exact ite_t (decide_eq_true h) ⟨_, rfl, p, _, _, _, rfl, rfl, SqT.of hp1', (show atI _ ((2 : Nat) : Int) = _ from atI_nat rfl), q _ t1⟩
  | table w' a x ns h4 hl x0 x1 =>
    obtain ⟨y1, r1, rfl, hy1, hr1⟩ := hr0.consI
    obtain ⟨y2, r2, rfl, hy2, hr2⟩ := hr1.consI
    obtain ⟨pt, ts, rfl, hpt, hts⟩ := hy2.tupI
    have ets : ts = ns.map V.int := dats_ints hts
    have e1 := hy1.intI
    subst ets e1
    have ha := hws a List.mem_cons_self
    refine ite_f (by decide) ⟨_, rfl, rfl, _, rfl, ?_⟩
    refine ite_f (by decide) ⟨_, rfl, rfl, _, rfl, ?_⟩
    refine ite_f (by decide) ⟨_, rfl, rfl, _, rfl, ?_⟩
    refine ite_t (by decide) ?_
    refine ⟨_, rfl, pi, _, _, _, rfl, rfl, SqL.of hpi1, rfl, _, _, rfl, rfl, _, rfl, ?_⟩
    refine ite_t (decide_eq_true h4) ⟨_, rfl, p, _, _, _, rfl, rfl, SqT.of hp1', (show atI _ ((2 : Nat) : Int) = _ from atI_nat rfl), _, _, rfl, .inr ⟨_, SqT.of (t1 _ _ hpt), rfl⟩, _, rfl, pi, _, _, _, rfl, rfl, SqL.of hpi1, rfl, a, rfl, by omega, by omega, rfl, ?_⟩
    refine ⟨_, rfl, _, rfl, ?_⟩
    exact ite_t (decide_eq_true (by rw [List.length_map, hl])) ⟨_, rfl, p, _, _, _, rfl, rfl, SqT.of hp1', (show atI _ ((1 : Nat) : Int) = _ from atI_nat rfl), q _ t1⟩
  | choice a c x y =>
    refine ite_f (by decide) ⟨_, rfl, rfl, _, rfl, ?_⟩
    refine ite_f (by decide) ⟨_, rfl, rfl, _, rfl, ?_⟩
    refine ite_f (by decide) ⟨_, rfl, rfl, _, rfl, ?_⟩
    refine ite_f (by decide) ⟨_, rfl, rfl, _, rfl, ?_⟩
    refine ite_t (by decide) ?_
    refine ⟨_, rfl, pi, _, _, _, rfl, rfl, SqL.of hpi1, rfl, rfl, _, rfl, ?_⟩
    refine ite_t (by decide) ⟨_, rfl, pi, _, _, _, rfl, rfl, SqL.of hpi1, rfl, _, rfl, pi, _, _, _, rfl, rfl, SqL.of hpi1, rfl, rfl, _, rfl, ?_⟩
    exact ite_t (by simp) ⟨_, rfl, pi, _, _, _, rfl, rfl, SqL.of hpi1, rfl, q _ t1⟩
  | and =>
    refine ite_f (by decide) ⟨_, rfl, rfl, _, rfl, ?_⟩
    refine ite_f (by decide) ⟨_, rfl, rfl, _, rfl, ?_⟩
    refine ite_f (by decide) ⟨_, rfl, rfl, _, rfl, ?_⟩
    refine ite_f (by decide) ⟨_, rfl, rfl, _, rfl, ?_⟩
    refine ite_f (by decide) ?_
    refine ⟨_, rfl, pi, _, _, _, rfl, rfl, SqL.of hpi1, rfl, _, rfl, pi, _, _, _, rfl, rfl, SqL.of hpi1, rfl, rfl, _, rfl, ?_⟩
    refine ite_f (by simp) ?_
    refine ⟨_, rfl, (by show 2 ≤ sizeLine; decide), fun p2 hp2 => ?_⟩
    have t2 := same_new hp2 (.tup [.str "under", .str "same"])
    refine ⟨p2, _, rfl, .inr (SqT.of upd_same), rfl, rfl, _, rfl, ?_⟩
    exact ite_f (by decide) ⟨_, rfl, pi, _, _, _, rfl, rfl, SqL.of (t2 _ _ hpi1), rfl, q _ (t1.trans t2)⟩
  | or =>
    refine ite_f (by decide) ⟨_, rfl, rfl, _, rfl, ?_⟩
    refine ite_f (by decide) ⟨_, rfl, rfl, _, rfl, ?_⟩
    refine ite_f (by decide) ⟨_, rfl, rfl, _, rfl, ?_⟩
    refine ite_f (by decide) ⟨_, rfl, rfl, _, rfl, ?_⟩
    refine ite_f (by decide) ?_
    refine ⟨_, rfl, pi, _, _, _, rfl, rfl, SqL.of hpi1, rfl, _, rfl, pi, _, _, _, rfl, rfl, SqL.of hpi1, rfl, rfl, _, rfl, ?_⟩
    refine ite_f (by simp) ?_
    refine ⟨_, rfl, (by show 2 ≤ sizeLine; decide), fun p2 hp2 => ?_⟩
    have t2 := same_new hp2 (.tup [.str "under", .str "same"])
    refine ⟨p2, _, rfl, .inr (SqT.of upd_same), rfl, rfl, _, rfl, ?_⟩
    exact ite_f (by decide) ⟨_, rfl, pi, _, _, _, rfl, rfl, SqL.of (t2 _ _ hpi1), rfl, q _ (t1.trans t2)⟩
  | odd =>
    refine ite_f (by decide) ⟨_, rfl, rfl, _, rfl, ?_⟩
    refine ite_f (by decide) ⟨_, rfl, rfl, _, rfl, ?_⟩
    refine ite_f (by decide) ⟨_, rfl, rfl, _, rfl, ?_⟩
    refine ite_f (by decide) ⟨_, rfl, rfl, _, rfl, ?_⟩
    refine ite_f (by decide) ?_
    refine ⟨_, rfl, pi, _, _, _, rfl, rfl, SqL.of hpi1, rfl, _, rfl, pi, _, _, _, rfl, rfl, SqL.of hpi1, rfl, rfl, _, rfl, ?_⟩
    refine ite_f (by simp) ?_
    refine ⟨_, rfl, (by show 2 ≤ sizeLine; decide), fun p2 hp2 => ?_⟩
    have t2 := same_new hp2 (.tup [.str "under", .str "same"])
    refine ⟨p2, _, rfl, .inr (SqT.of upd_same), rfl, rfl, _, rfl, ?_⟩
    exact ite_f (by decide) ⟨_, rfl, pi, _, _, _, rfl, rfl, SqL.of (t2 _ _ hpi1), rfl, q _ (t1.trans t2)⟩
  | sum =>
    refine ite_f (by decide) ⟨_, rfl, rfl, _, rfl, ?_⟩
    refine ite_f (by decide) ⟨_, rfl, rfl, _, rfl, ?_⟩
    refine ite_f (by decide) ⟨_, rfl, rfl, _, rfl, ?_⟩
    refine ite_f (by decide) ⟨_, rfl, rfl, _, rfl, ?_⟩
    refine ite_f (by decide) ?_
    refine ⟨_, rfl, pi, _, _, _, rfl, rfl, SqL.of hpi1, rfl, _, rfl, pi, _, _, _, rfl, rfl, SqL.of hpi1, rfl, rfl, _, rfl, ?_⟩
    refine ite_f (by simp) ?_
    refine ⟨_, rfl, (by show 2 ≤ sizeLine; decide), fun p2 hp2 => ?_⟩
    have t2 := same_new hp2 (.tup [.str "under", .str "same"])
    refine ⟨p2, _, rfl, .inr (SqT.of upd_same), rfl, rfl, _, rfl, ?_⟩
    exact ite_f (by decide) ⟨_, rfl, pi, _, _, _, rfl, rfl, SqL.of (t2 _ _ hpi1), rfl, q _ (t1.trans t2)⟩
  | less =>
    refine ite_f (by decide) ⟨_, rfl, rfl, _, rfl, ?_⟩
    refine ite_f (by decide) ⟨_, rfl, rfl, _, rfl, ?_⟩
    refine ite_f (by decide) ⟨_, rfl, rfl, _, rfl, ?_⟩
    refine ite_f (by decide) ⟨_, rfl, rfl, _, rfl, ?_⟩
    refine ite_f (by decide) ?_
    refine ⟨_, rfl, pi, _, _, _, rfl, rfl, SqL.of hpi1, rfl, _, rfl, pi, _, _, _, rfl, rfl, SqL.of hpi1, rfl, rfl, _, rfl, ?_⟩
    refine ite_f (by simp) ?_
    refine ⟨_, rfl, (by show 2 ≤ sizeLine; decide), fun p2 hp2 => ?_⟩
    have t2 := same_new hp2 (.tup [.str "under", .str "same"])
    refine ⟨p2, _, rfl, .inr (SqT.of upd_same), rfl, rfl, _, rfl, ?_⟩
    exact ite_f (by decide) ⟨_, rfl, pi, _, _, _, rfl, rfl, SqL.of (t2 _ _ hpi1), rfl, q _ (t1.trans t2)⟩
  | under =>
    refine ite_f (by decide) ⟨_, rfl, rfl, _, rfl, ?_⟩
    refine ite_f (by decide) ⟨_, rfl, rfl, _, rfl, ?_⟩
    refine ite_f (by decide) ⟨_, rfl, rfl, _, rfl, ?_⟩
    refine ite_f (by decide) ⟨_, rfl, rfl, _, rfl, ?_⟩
    refine ite_f (by decide) ?_
    refine ⟨_, rfl, pi, _, _, _, rfl, rfl, SqL.of hpi1, rfl, _, rfl, pi, _, _, _, rfl, rfl, SqL.of hpi1, rfl, rfl, _, rfl, ?_⟩
    refine ite_f (by simp) ?_
    refine ⟨_, rfl, (by show 2 ≤ sizeLine; decide), fun p2 hp2 => ?_⟩
    have t2 := same_new hp2 (.tup [.str "under", .str "same"])
    refine ⟨p2, _, rfl, .inr (SqT.of upd_same), rfl, rfl, _, rfl, ?_⟩
    exact ite_t (by decide) (q _ (t1.trans t2))
  | same =>
    refine ite_f (by decide) ⟨_, rfl, rfl, _, rfl, ?_⟩
    refine ite_f (by decide) ⟨_, rfl, rfl, _, rfl, ?_⟩
    refine ite_f (by decide) ⟨_, rfl, rfl, _, rfl, ?_⟩
    refine ite_f (by decide) ⟨_, rfl, rfl, _, rfl, ?_⟩
    refine ite_f (by decide) ?_
    refine ⟨_, rfl, pi, _, _, _, rfl, rfl, SqL.of hpi1, rfl, _, rfl, pi, _, _, _, rfl, rfl, SqL.of hpi1, rfl, rfl, _, rfl, ?_⟩
    refine ite_f (by simp) ?_
    refine ⟨_, rfl, (by show 2 ≤ sizeLine; decide), fun p2 hp2 => ?_⟩
    have t2 := same_new hp2 (.tup [.str "under", .str "same"])
    refine ⟨p2, _, rfl, .inr (SqT.of upd_same), rfl, rfl, _, rfl, ?_⟩
    exact ite_t (by decide) (q _ (t1.trans t2))
theorem ok_worth_of_two (T : Tx w K mg A) (G_two_to : FnOk P w K mg base CX0 1 A.a_two_to A.d_two_to ["many"] sp_two_to) : FnOk P w K mg base CX0 2 A.a_worth_of_two A.d_worth_of_two ["word", "width", "a", "b"] sp_of_two := by
  refine T.F_worth_of_two.ok sc_worth_of_two (fun vs H Q E h => ?_) (fun cdv A' outer s H vs Q E hr h => ?_)
  · obtain ⟨z, a, x, y, w, val, rfl, ev, nj, ha, hw, q⟩ := h
    rfl
  obtain ⟨z, a, x, y, w, val, rfl, ev, nj, ha, hw, q⟩ := h
  refine ⟨_, (pss_cons (ps_if (pt_cmpR op_eq (pv 0) pe_str (nomark _)) (pss_one (ps_ret (pe_op op_and (pv 2) (pv 3)))) pss_nil)
    (pss_cons (ps_if (pt_cmpR op_eq (pv 0) pe_str (nomark _)) (pss_one (ps_ret (pe_op op_or (pv 2) (pv 3)))) pss_nil)
    (pss_cons (ps_if (pt_cmpR op_eq (pv 0) pe_str (nomark _)) (pss_one (ps_ret (pe_op op_xor (pv 2) (pv 3)))) pss_nil)
    (pss_cons (ps_if (pt_cmpR op_eq (pv 0) pe_str (nomark _)) (pss_one (ps_ret (pe_op op_mod (pe_op op_add (pv 2) (pv 3)) (pe_call G_two_to (hr.mono (by first | decide | omega)) rfl T.M_two_to T.F_two_to.kp T.B_two_to .nil pass0 (pa_cons (pv 1) pa_nil))))) pss_nil)
    (pss_cons (ps_if (pt_cmpR op_eq (pv 0) pe_str (nomark _)) (pss_one (ps_ret (pe_op op_mod (pe_op op_sub (pv 2) (pv 3)) (pe_call G_two_to (hr.mono (by first | decide | omega)) rfl T.M_two_to T.F_two_to.kp T.B_two_to .nil pass0 (pa_cons (pv 1) pa_nil))))) pss_nil)
    (pss_cons (ps_if (pt_cmpR op_eq (pv 0) pe_str (nomark _)) (pss_one (ps_ret (pe_ifExp (pt_cmpR op_lt (pv 2) (pv 3) (nomark _)) pe_int pe_int))) pss_nil)
    (pss_one (ps_ret (pe_ifExp (pt_cmpR op_eq (pv 2) (pv 3) (nomark _)) pe_int pe_int))))))))), ?_⟩
  refine ⟨_, rfl, rfl, _, rfl, ?_⟩
  generalize hh : ([] : List PyData) = hd at ev
  generalize h1 : [a, a] = ws at ev
  generalize h2 : [x, y] = us at ev
  cases ev with
  | not => cases h1
  | choice => cases h1
  | up => cases h1
  | down => cases h1
  | cut => cases h1
  | table => cases h1
  | join => exact absurd rfl nj
  | and =>
    cases h1; cases h2
    exact ite_t (by decide) ⟨_, rfl, _, rfl, _, _, rfl, rfl, q⟩
  | or =>
    cases h1; cases h2
    refine ite_f (by decide) ⟨_, rfl, rfl, _, rfl, ?_⟩
    exact ite_t (by decide) ⟨_, rfl, _, rfl, _, _, rfl, rfl, q⟩
  | odd =>
    cases h1; cases h2
    refine ite_f (by decide) ⟨_, rfl, rfl, _, rfl, ?_⟩
    refine ite_f (by decide) ⟨_, rfl, rfl, _, rfl, ?_⟩
    exact ite_t (by decide) ⟨_, rfl, _, rfl, _, _, rfl, rfl, q⟩
  | sum =>
    cases h1; cases h2
    refine ite_f (by decide) ⟨_, rfl, rfl, _, rfl, ?_⟩
    refine ite_f (by decide) ⟨_, rfl, rfl, _, rfl, ?_⟩
    refine ite_f (by decide) ⟨_, rfl, rfl, _, rfl, ?_⟩
    exact ite_t (by decide) ⟨_, rfl, _, rfl, _, _, rfl, rfl, _, rfl, _, rfl, by omega, by omega, _, _, rfl, rfl, pow_pos2 _, q⟩
  | less =>
    cases h1; cases h2
    refine ite_f (by decide) ⟨_, rfl, rfl, _, rfl, ?_⟩
    refine ite_f (by decide) ⟨_, rfl, rfl, _, rfl, ?_⟩
    refine ite_f (by decide) ⟨_, rfl, rfl, _, rfl, ?_⟩
    refine ite_f (by decide) ⟨_, rfl, rfl, _, rfl, ?_⟩
    exact ite_t (by decide) ⟨_, rfl, _, rfl, _, _, rfl, rfl, _, rfl, _, rfl, by omega, by omega, _, _, rfl, rfl, pow_pos2 _, q⟩
  | under =>
    cases h1; cases h2
    refine ite_f (by decide) ⟨_, rfl, rfl, _, rfl, ?_⟩
    refine ite_f (by decide) ⟨_, rfl, rfl, _, rfl, ?_⟩
    refine ite_f (by decide) ⟨_, rfl, rfl, _, rfl, ?_⟩
    refine ite_f (by decide) ⟨_, rfl, rfl, _, rfl, ?_⟩
    refine ite_f (by decide) ⟨_, rfl, rfl, _, rfl, ?_⟩
    refine ite_t (by decide) ⟨_, rfl, _, rfl, _, _, rfl, rfl, _, rfl, ?_⟩
    by_cases c : x < y
    · rw [if_pos c] at q
      exact ite_t (decide_eq_true c) q
    · rw [if_neg c] at q
      exact ite_f (decide_eq_false c) q
  | same =>
    cases h1; cases h2
    refine ite_f (by decide) ⟨_, rfl, rfl, _, rfl, ?_⟩
    refine ite_f (by decide) ⟨_, rfl, rfl, _, rfl, ?_⟩
    refine ite_f (by decide) ⟨_, rfl, rfl, _, rfl, ?_⟩
    refine ite_f (by decide) ⟨_, rfl, rfl, _, rfl, ?_⟩
    refine ite_f (by decide) ⟨_, rfl, rfl, _, rfl, ?_⟩
    refine ite_f (by decide) ⟨_, rfl, _, rfl, rfl, _, rfl, ?_⟩
    by_cases c : x = y
    · rw [if_pos c] at q
      exact ite_t (decide_eq_true (by rw [c])) q
    · rw [if_neg c] at q
      exact ite_f (decide_eq_false fun h => c (by injection h)) q
theorem ok_worth_of_one (T : Tx w K mg A) (G_two_to : FnOk P w K mg base CX0 1 A.a_two_to A.d_two_to ["many"] sp_two_to) : FnOk P w K mg base CX0 2 A.a_worth_of_one A.d_worth_of_one ["saying", "width", "a"] sp_of_one := by
  refine T.F_worth_of_one.ok sc_worth_of_one (fun vs H Q E h => ?_) (fun cdv A' outer s H vs Q E hr h => ?_)
  · obtain ⟨z, hd, subs, v, a, x, w, val, rfl, hD, ev, ha, hw, q⟩ := h
    rfl
  obtain ⟨z, hd, subs, v, a, x, w, val, rfl, hD, ev, ha, hw, q⟩ := h
  refine ⟨_, (pss_cons (ps_set (i := 3) sc_worth_of_one.nd rfl (Or.inl rfl) (pe_ix ix_tup (pv 0) pe_int (fun _ _ => rfl)))
    (pss_cons (ps_if (pt_cmpR op_eq (pv 3) pe_str (nomark _)) (pss_one (ps_ret (pe_op op_sub (pe_op op_sub (pe_call G_two_to (hr.mono (by first | decide | omega)) rfl T.M_two_to T.F_two_to.kp T.B_two_to .nil pass0 (pa_cons (pv 1) pa_nil)) pe_int) (pv 2)))) pss_nil)
    (pss_cons (ps_if (pt_cmpR op_eq (pv 3) pe_str (nomark _)) (pss_one (ps_ret (pe_op op_mod (pe_op op_mul (pv 2) (pe_call G_two_to (hr.mono (by first | decide | omega)) rfl T.M_two_to T.F_two_to.kp T.B_two_to .nil pass0 (pa_cons (pe_ix ix_tup (pv 0) pe_int (fun _ _ => rfl)) pa_nil))) (pe_call G_two_to (hr.mono (by first | decide | omega)) rfl T.M_two_to T.F_two_to.kp T.B_two_to .nil pass0 (pa_cons (pv 1) pa_nil))))) pss_nil)
    (pss_cons (ps_if (pt_cmpR op_eq (pv 3) pe_str (nomark _)) (pss_one (ps_ret (pe_op op_fdivL (pv 2) (pe_call G_two_to (hr.mono (by first | decide | omega)) rfl T.M_two_to T.F_two_to.kp T.B_two_to .nil pass0 (pa_cons (pe_ix ix_tup (pv 0) pe_int (fun _ _ => rfl)) pa_nil))))) pss_nil)
    (pss_cons (ps_if (pt_cmpR op_eq (pv 3) pe_str (nomark _)) (pss_one (ps_ret (pe_op op_mod (pe_op op_fdivL (pv 2) (pe_call G_two_to (hr.mono (by first | decide | omega)) rfl T.M_two_to T.F_two_to.kp T.B_two_to .nil pass0 (pa_cons (pe_ix ix_tup (pv 0) pe_int (fun _ _ => rfl)) pa_nil))) (pe_call G_two_to (hr.mono (by first | decide | omega)) rfl T.M_two_to T.F_two_to.kp T.B_two_to .nil pass0 (pa_cons (pv 1) pa_nil))))) pss_nil)
    (pss_one (ps_ret (pe_ix ix_tup (pe_ix ix_tup (pv 0) pe_int (fun _ _ => rfl)) (pv 2) (fun _ _ => rfl))))))))), ?_⟩
  obtain ⟨p, xs, rfl, hp, hxs⟩ := hD.tupI
  obtain ⟨x0, r0, rfl, h0, hr0⟩ := hxs.consI
  have e0 : x0 = .str z := by unfold Dat at h0; exact h0
  subst e0
  refine ⟨_, rfl, p, _, _, _, rfl, rfl, SqT.of hp, (show atI _ ((0 : Nat) : Int) = _ from atI_nat rfl), ?_⟩
  refine ⟨_, rfl, rfl, _, rfl, ?_⟩
  generalize h1 : [a] = ws at ev
  generalize h2 : [x] = us at ev
  cases ev with
  | and => cases h1
  | or => cases h1
  | odd => cases h1
  | sum => cases h1
  | less => cases h1
  | under => cases h1
  | same => cases h1
  | choice => cases h1
  | join => cases h1
  | not =>
    cases h1; cases h2
    exact ite_t (by decide) ⟨_, rfl, _, rfl, by omega, by omega, _, _, rfl, rfl, _, rfl, _, _, rfl, rfl, q _ (Same.refl H)⟩
  | up k _ _ k0 k1 =>
    cases h1; cases h2
    obtain ⟨x1, r1, rfl, hx1, _⟩ := hr0.consI
    have e1 := hx1.intI
    subst e1
    refine ite_f (by decide) ⟨_, rfl, rfl, _, rfl, ?_⟩
    exact ite_t (by decide) ⟨_, rfl, _, rfl, p, _, _, _, rfl, rfl, SqT.of hp, (show atI _ ((1 : Nat) : Int) = _ from atI_nat rfl), k, rfl, by omega, by omega, _, _, rfl, rfl, .inr ⟨Int.lt_trans (by decide) (pow_pos2 _), Int.lt_of_le_of_lt (pow_le2 (by omega)) (by decide)⟩, _, rfl, _, rfl, by omega, by omega, _, _, rfl, rfl, pow_pos2 _, q _ (Same.refl H)⟩
  | down k _ _ k0 k1 =>
    cases h1; cases h2
    obtain ⟨x1, r1, rfl, hx1, _⟩ := hr0.consI
    have e1 := hx1.intI
    subst e1
    refine ite_f (by decide) ⟨_, rfl, rfl, _, rfl, ?_⟩
    refine ite_f (by decide) ⟨_, rfl, rfl, _, rfl, ?_⟩
    exact ite_t (by decide) ⟨_, rfl, _, rfl, p, _, _, _, rfl, rfl, SqT.of hp, (show atI _ ((1 : Nat) : Int) = _ from atI_nat rfl), k, rfl, by omega, by omega, _, _, rfl, rfl, ⟨pow_pos2 _, Int.lt_of_le_of_lt (pow_le2 (by omega)) (by decide)⟩, q _ (Same.refl H)⟩
  | cut f _ _ _ f0 w0 hf =>
    cases h1; cases h2
    obtain ⟨x1, r1, rfl, hx1, _⟩ := hr0.consI
    have e1 := hx1.intI
    subst e1
    refine ite_f (by decide) ⟨_, rfl, rfl, _, rfl, ?_⟩
    refine ite_f (by decide) ⟨_, rfl, rfl, _, rfl, ?_⟩
    refine ite_f (by decide) ⟨_, rfl, rfl, _, rfl, ?_⟩
    exact ite_t (by decide) ⟨_, rfl, _, rfl, p, _, _, _, rfl, rfl, SqT.of hp, (show atI _ ((1 : Nat) : Int) = _ from atI_nat rfl), f, rfl, by omega, by omega, _, _, rfl, rfl, ⟨pow_pos2 _, Int.lt_of_le_of_lt (pow_le2 (by omega)) (by decide)⟩, _, rfl, _, rfl, by omega, by omega, _, _, rfl, rfl, pow_pos2 _, q _ (Same.refl H)⟩
  | table _ _ _ ns h4 hl x0 x1 =>
    cases h1; cases h2
    obtain ⟨y1, r1, rfl, hy1, hr1⟩ := hr0.consI
    obtain ⟨y2, r2, rfl, hy2, hr2⟩ := hr1.consI
    obtain ⟨pt, ts, rfl, hpt, hts⟩ := hy2.tupI
    have ets : ts = ns.map V.int := dats_ints hts
    subst ets
    refine ite_f (by decide) ⟨_, rfl, rfl, _, rfl, ?_⟩
    refine ite_f (by decide) ⟨_, rfl, rfl, _, rfl, ?_⟩
    refine ite_f (by decide) ⟨_, rfl, rfl, _, rfl, ?_⟩
    exact ite_f (by decide) ⟨_, rfl, p, _, _, _, rfl, rfl, SqT.of hp, (show atI _ ((2 : Nat) : Int) = _ from atI_nat rfl), _, rfl, pt, _, _, _, rfl, rfl, SqT.of hpt, at_getD x0 (by rw [hl]; exact x1), q _ (Same.refl H)⟩
theorem ok_measured (T : Tx w K mg A) (G_two_to : FnOk P w K mg base CX0 1 A.a_two_to A.d_two_to ["many"] sp_two_to) (G_sayings_in : FnOk P w K mg base CX0 1 A.a_sayings_in A.d_sayings_in ["saying"] sp_sayings_in) (G_width_over : FnOk P w K mg base CX0 2 A.a_width_over A.d_width_over ["saying", "inner"] sp_width_over) (G_worth_of_one : FnOk P w K mg base CX0 2 A.a_worth_of_one A.d_worth_of_one ["saying", "width", "a"] sp_of_one) (G_worth_of_two : FnOk P w K mg base CX0 2 A.a_worth_of_two A.d_worth_of_two ["word", "width", "a", "b"] sp_of_two) (n : Nat) (G_measured : FnOk P w K mg base CX0 (n + 2) A.a_measured A.d_measured ["saying", "widths", "numbers"] (sp_meas n)) : FnOk P w K mg base CX0 (n + 3) A.a_measured A.d_measured ["saying", "widths", "numbers"] (sp_meas (n + 1)) := by
  refine T.F_measured.ok sc_measured (fun vs H Q E h => ?_) (fun cdv A' outer s H vs Q E hr h => ?_)
  · obtain ⟨d, v, wd, nd, wk, nk, w, x, rfl, hD, hwd, hnd, hM, q⟩ := h
    rfl
  obtain ⟨d, v, wd, nd, wk, nk, w, x, rfl, hD, hwd, hnd, hM, q⟩ := h
  have hu := hu_of hr
  refine ⟨_, (pss_cons (ps_set (i := 3) sc_measured.nd rfl (Or.inl rfl) (pe_ix ix_tup (pv 0) pe_int (fun _ _ => rfl)))
    (pss_cons (ps_if (pt_cmpR op_eq (pv 3) pe_str (nomark _)) (pss_one (ps_ret (pe_tup (pa_cons (pe_dget hu (pv 1) (pe_ix ix_tup (pv 0) pe_int (fun _ _ => rfl)) (fun _ _ => rfl)) (pa_cons (pe_dget hu (pv 2) (pe_ix ix_tup (pv 0) pe_int (fun _ _ => rfl)) (fun _ _ => rfl)) pa_nil))))) pss_nil)
    (pss_cons (ps_if (pt_cmpR op_eq (pv 3) pe_str (nomark _)) (pss_one (ps_ret (pe_tup (pa_cons (pe_ix ix_tup (pv 0) pe_int (fun _ _ => rfl)) (pa_cons (pe_ix ix_tup (pv 0) pe_int (fun _ _ => rfl)) pa_nil))))) pss_nil)
    (pss_cons (ps_comp [1, 2] sc_measured.nd (i := 4) rfl (Or.inl rfl) (fun _ _ h => h) rfl (pi_tup (pe_call G_sayings_in (hr.mono (by first | decide | omega)) rfl T.M_sayings_in T.F_sayings_in.kp T.B_sayings_in .nil pass0 (pa_cons (pv 0) pa_nil))) (fun _ _ _ _ => pts_nil) (fun _ _ _ _ => (pe_call G_measured (hr.mono (by first | decide | omega)) rfl T.M_measured T.F_measured.kp T.B_measured .nil pass0 (pa_cons (pv 0) (pa_cons (pv 1) (pa_cons (pv 2) pa_nil))))) rfl (show ∀ j ∈ ([1, 2] : List Nat), j < 8 by decide) (show (["piece", "widths", "numbers"] : List Str).Nodup by decide +kernel) (by with_unfolding_all rfl))
    (pss_cons (ps_comp [] sc_measured.nd (i := 5) rfl (Or.inl rfl) (fun _ _ h => h) rfl (pi_list (pv 4)) (fun _ _ _ _ => pts_nil) (fun _ _ _ _ => (pe_ix (ix_tupK (K := K) rfl) (pv 0) pe_int (fun _ _ => rfl))) rfl (show ∀ j ∈ ([] : List Nat), j < 8 by decide) (show (["pair"] : List Str).Nodup by decide +kernel) (by with_unfolding_all rfl))
    (pss_cons (ps_comp [] sc_measured.nd (i := 6) rfl (Or.inl rfl) (fun _ _ h => h) rfl (pi_list (pv 4)) (fun _ _ _ _ => pts_nil) (fun _ _ _ _ => (pe_ix (ix_tupK (K := K) rfl) (pv 0) pe_int (fun _ _ => rfl))) rfl (show ∀ j ∈ ([] : List Nat), j < 8 by decide) (show (["pair"] : List Str).Nodup by decide +kernel) (by with_unfolding_all rfl))
    (pss_cons (ps_set (i := 7) sc_measured.nd rfl (Or.inl rfl) (pe_call G_width_over (hr.mono (by first | decide | omega)) rfl T.M_width_over T.F_width_over.kp T.B_width_over .nil pass0 (pa_cons (pv 0) (pa_cons (pv 5) pa_nil))))
    (pss_cons (ps_if (pt_cmpR op_eq (pv 3) pe_str (nomark _)) (pss_one (ps_ret (pe_tup (pa_cons (pv 7) (pa_cons (pe_ifExp (pt_cmpR op_eq (pe_ix ix_list (pv 6) pe_int (fun _ _ => rfl)) pe_int (nomark _)) (pe_ix ix_list (pv 6) pe_int (fun _ _ => rfl)) (pe_ix ix_list (pv 6) pe_int (fun _ _ => rfl))) pa_nil))))) pss_nil)
    (pss_cons (ps_if (pt_cmpR op_eq (pv 3) pe_str (nomark _)) (pss_one (ps_ret (pe_tup (pa_cons (pv 7) (pa_cons (pe_op op_add (pe_ix ix_list (pv 6) pe_int (fun _ _ => rfl)) (pe_op op_mul (pe_ix ix_list (pv 6) pe_int (fun _ _ => rfl)) (pe_call G_two_to (hr.mono (by first | decide | omega)) rfl T.M_two_to T.F_two_to.kp T.B_two_to .nil pass0 (pa_cons (pe_ix ix_list (pv 5) pe_int (fun _ _ => rfl)) pa_nil)))) pa_nil))))) pss_nil)
    (pss_cons (ps_if (pt_cmpR op_eq (pe_callB call_len rfl T.len PySem.boot_len (pa_cons (pv 6) pa_nil)) pe_int (nomark _)) (pss_one (ps_ret (pe_tup (pa_cons (pv 7) (pa_cons (pe_call G_worth_of_one (hr.mono (by first | decide | omega)) rfl T.M_worth_of_one T.F_worth_of_one.kp T.B_worth_of_one .nil pass0 (pa_cons (pv 0) (pa_cons (pv 7) (pa_cons (pe_ix ix_list (pv 6) pe_int (fun _ _ => rfl)) pa_nil)))) pa_nil))))) pss_nil)
    (pss_one (ps_ret (pe_tup (pa_cons (pv 7) (pa_cons (pe_call G_worth_of_two (hr.mono (by first | decide | omega)) rfl T.M_worth_of_two T.F_worth_of_two.kp T.B_worth_of_two .nil pass0 (pa_cons (pv 3) (pa_cons (pv 7) (pa_cons (pe_ix ix_list (pv 6) pe_int (fun _ _ => rfl)) (pa_cons (pe_ix ix_list (pv 6) pe_int (fun _ _ => rfl)) pa_nil))))) pa_nil))))))))))))))), ?_⟩
  obtain ⟨hw8, hM⟩ := hM
  rcases hM with ⟨y, rfl, e1, e2⟩ | rfl | ⟨z, hd, subs, ws, us, rfl, ev, hsl, hwb, hms⟩
  · obtain ⟨p, xs, rfl, hp, hxs⟩ := hD.tupI
    obtain ⟨x0, r0, rfl, h0, hr0⟩ := hxs.consI
    obtain ⟨x1, r1, rfl, h1, hr1⟩ := hr0.consI
    have f0 : x0 = .str "wire" := by unfold Dat at h0; exact h0
    have f1 : x1 = .str y := by unfold Dat at h1; exact h1
    subst f0 f1
    refine ⟨_, rfl, p, _, _, _, rfl, rfl, SqT.of hp, (show atI _ ((0 : Nat) : Int) = _ from atI_nat rfl), ?_⟩
    refine ⟨_, rfl, rfl, _, rfl, ?_⟩
    refine ite_t (by decide) ?_
    refine ⟨_, rfl, _, rfl, p, _, _, _, rfl, rfl, SqT.of hp, (show atI _ ((1 : Nat) : Int) = _ from atI_nat rfl), wd, _, rfl, dget hwd e1, _, rfl, _, rfl, p, _, _, _, rfl, rfl, SqT.of hp, (show atI _ ((1 : Nat) : Int) = _ from atI_nat rfl), nd, _, rfl, dget hnd e2, (by show 2 ≤ sizeLine; decide), fun t ht => ?_⟩
    exact q t _ ht (same_new ht _) upd_same
  · obtain ⟨p, xs, rfl, hp, hxs⟩ := hD.tupI
    obtain ⟨x0, r0, rfl, h0, hr0⟩ := hxs.consI
    obtain ⟨x1, r1, rfl, h1, hr1⟩ := hr0.consI
    obtain ⟨x2, r2, rfl, h2, hr2⟩ := hr1.consI
    have f0 : x0 = .str "number" := by unfold Dat at h0; exact h0
    have f1 := h1.intI
    have f2 := h2.intI
    subst f0 f1 f2
    refine ⟨_, rfl, p, _, _, _, rfl, rfl, SqT.of hp, (show atI _ ((0 : Nat) : Int) = _ from atI_nat rfl), ?_⟩
    refine ⟨_, rfl, rfl, _, rfl, ?_⟩
    refine ite_f (by decide) ⟨_, rfl, rfl, _, rfl, ?_⟩
    refine ite_t (by decide) ?_
    refine ⟨_, rfl, p, _, _, _, rfl, rfl, SqT.of hp, (show atI _ ((2 : Nat) : Int) = _ from atI_nat rfl), _, rfl, p, _, _, _, rfl, rfl, SqT.of hp, (show atI _ ((1 : Nat) : Int) = _ from atI_nat rfl), (by show 2 ≤ sizeLine; decide), fun t ht => ?_⟩
    exact q t _ ht (same_new ht _) upd_same
  · obtain ⟨z1, z2, z3⟩ := ev.word
    obtain ⟨k1, k2, k3, k4⟩ := ev.form
    have hD0 := hD
    obtain ⟨p, xs, rfl, hp, hxs⟩ := hD.tupI
    obtain ⟨x0, r0, rfl, h0, hr0⟩ := hxs.consI
    have e0 : x0 = .str z := by unfold Dat at h0; exact h0
    subst e0
    refine ⟨_, rfl, p, _, _, _, rfl, rfl, SqT.of hp, (show atI _ ((0 : Nat) : Int) = _ from atI_nat rfl), ?_⟩
    refine ⟨_, rfl, rfl, _, rfl, ?_⟩
    refine ite_f (decide_eq_false fun h => z2 (by injection h)) ⟨_, rfl, rfl, _, rfl, ?_⟩
    refine ite_f (decide_eq_false fun h => z3 (by injection h)) ?_
    refine ⟨_, rfl, z, hd, subs, _, rfl, z1, k1, k2, hD0, fun pt ys H1 s1 hpt hys => ?_⟩
    have hyl := hys.length
    refine ⟨pt, rfl, ⟨_, SqT.of hpt⟩, comp_tup (xs := ys) (fun i zs H' => ∃ (rs : List Addr) (ps : List (Int × Int)), zs = rs.map V.ref ∧ Same H1 H' ∧ Paired (fun r (p : Int × Int) => H' r = some (.tup [.int p.1, .int p.2])) rs ps ∧ ps.length = i ∧ ps.map (·.1) = ws.take i ∧ ps.map (·.2) = us.take i) ⟨[], [], rfl, Same.refl _, .nil, rfl, rfl, rfl⟩ ?_ ?_ ?_ ?_⟩
    · rintro i zs H' _ ⟨_, _, _, s', _⟩
      exact SqT.of (s' _ _ hpt)
    · rintro i zs H' hi ⟨rs, ps, rfl, s', hp', hl, _⟩
      rw [List.length_map, Paired.length hp']
      exact smallL (by omega)
    · rintro i y zs H' hy ⟨rs, ps, rfl, s', hp', hl, m1, m2⟩
      obtain ⟨sd, hsd, hyd⟩ := hys.get hy
      obtain ⟨a, u, ha, hu, hMs⟩ := hms i sd hsd
      unfold tYes
      refine iteT ⟨_, rfl, _, rfl, _, rfl, sd, y, wd, nd, wk, nk, a, u, rfl, hyd.same s', (s1.trans s') _ _ hwd, (s1.trans s') _ _ hnd, hMs, fun t H2 ht s2 ht2 => ?_⟩
      refine ⟨rs ++ [t], ps ++ [(a, u)], by rw [List.map_append]; rfl, s'.trans s2, pairedSn (pairedMono (fun _ _ q => s2 _ _ q) hp') (.cons ht2 .nil), by rw [List.length_append, hl]; rfl, ?_, ?_⟩
      · rw [List.map_append, m1, take_get ha]; rfl
      · rw [List.map_append, m2, take_get hu]; rfl
    · rintro zs H2 ⟨rs, ps, rfl, s2, hp2, hl, m1, m2⟩ l hl2
      have hlw : ys.length = ws.length := by omega
      rw [hlw] at m1
      rw [hlw, k3] at m2
      rw [List.take_length] at m1 m2
      have s3 := same_new hl2 (.lst (rs.map V.ref))
      have hP3 : PrsR (upd H2 l (.lst (rs.map V.ref))) l rs ps := ⟨upd_same, pairedMono (fun _ _ q => s3 _ _ q) hp2⟩
      have s03 := (s1.trans s2).trans s3
      generalize upd H2 l (.lst (rs.map V.ref)) = H3 at hP3 s03 ⊢
      have hps : ps.length ≤ 3 := by have := congrArg List.length m1; rw [List.length_map] at this; omega
      refine ⟨_, rfl, l, rfl, ⟨_, SqL.of hP3.1⟩, comp_prs_map (fun p => .int p.1) hP3 (by omega) (fun x hx r hr' N hN => ⟨_, rfl, r, _, _, _, rfl, rfl, SqT.of hr', rfl, hN⟩) fun li hli => ?_⟩
      rw [show ps.map (fun p => V.int p.1) = (ps.map (·.1)).map V.int by rw [List.map_map]; rfl, m1]
      have s4 := same_new hli (.lst (ws.map V.int))
      have s04 := s03.trans s4
      have hi4 := upd_same (H := H3) (a := li) (o := .lst (ws.map V.int))
      have hP4 := hP3.same s4
      generalize upd H3 li (.lst (ws.map V.int)) = H4 at hP4 s04 hi4 ⊢
      refine ⟨_, rfl, l, rfl, ⟨_, SqL.of hP4.1⟩, comp_prs_map (fun p => .int p.2) hP4 (by omega) (fun x hx r hr' N hN => ⟨_, rfl, r, _, _, _, rfl, rfl, SqT.of hr', rfl, hN⟩) fun lu hlu => ?_⟩
      rw [show ps.map (fun p => V.int p.2) = (ps.map (·.2)).map V.int by rw [List.map_map]; rfl, m2]
      have s5 := same_new hlu (.lst (us.map V.int))
      have s05 := s04.trans s5
      have hi5 := s5 _ _ hi4
      have hu5 := upd_same (H := H4) (a := lu) (o := .lst (us.map V.int))
      generalize upd H4 lu (.lst (us.map V.int)) = H5 at s05 hi5 hu5 ⊢
      refine ⟨_, rfl, _, rfl, z, hd, subs, _, li, ws, us, w, x, rfl, hD0.same s05, hi5, ev, hwb, fun H6 s6 => ?_⟩
      have hi6 := s6 _ _ hi5
      have hu6 := s6 _ _ hu5
      have s06 := s05.trans s6
      have hD6 := hD0.same s06
      have fin : ∀ H7 t, Same H6 H7 → H7 t = none → Q (.ref t) (upd H7 t (.tup [.int w, .int x])) := fun H7 t s7 ht => q t _ ((s06.trans s7).free ht) ((s06.trans s7).trans (same_new ht _)) upd_same
      refine ⟨_, rfl, rfl, _, rfl, ?_⟩
      have ev0 := ev
      cases ev with
      | choice a c x y =>
        refine ite_t (by decide) ?_
        refine ⟨_, rfl, _, rfl, lu, _, _, _, rfl, rfl, SqL.of hu6, rfl, rfl, _, rfl, ?_⟩
        by_cases h : c = 1
        · rw [if_pos h] at fin
          exact ite_t (decide_eq_true (by rw [h])) ⟨_, rfl, lu, _, _, _, rfl, rfl, SqL.of hu6, rfl, (by show 2 ≤ sizeLine; decide), fun t ht => fin _ t (Same.refl _) ht⟩
        · rw [if_neg h] at fin
          exact ite_f (decide_eq_false fun e => h (by injection e)) ⟨_, rfl, lu, _, _, _, rfl, rfl, SqL.of hu6, rfl, (by show 2 ≤ sizeLine; decide), fun t ht => fin _ t (Same.refl _) ht⟩
      | join a b x y h =>
        have ha := hwb a List.mem_cons_self
        refine ite_f (by decide) ⟨_, rfl, rfl, _, rfl, ?_⟩
        refine ite_t (by decide) ?_
        exact ⟨_, rfl, _, rfl, lu, _, _, _, rfl, rfl, SqL.of hu6, rfl, _, rfl, lu, _, _, _, rfl, rfl, SqL.of hu6, rfl, _, rfl, li, _, _, _, rfl, rfl, SqL.of hi6, rfl, a, rfl, by omega, by omega, _, _, rfl, rfl, .inr ⟨Int.lt_trans (by decide) (pow_pos2 _), Int.lt_of_le_of_lt (pow_le2 (by omega)) (by decide)⟩, _, _, rfl, rfl, (by show 2 ≤ sizeLine; decide), fun t ht => fin _ t (Same.refl _) ht⟩
      | not =>
        refine ite_f (by decide) ⟨_, rfl, rfl, _, rfl, ?_⟩
        refine ite_f (by decide) ?_
        refine ⟨_, rfl, _, _, rfl, .inl ⟨_, SqL.of hu6, rfl⟩, rfl, _, rfl, ?_⟩
        refine ite_t (by first | rfl | simp) ?_
        exact ⟨_, rfl, _, rfl, _, rfl, _, rfl, lu, _, _, _, rfl, rfl, SqL.of hu6, rfl, _, _, subs, _, _, _, _, _, rfl, hD6, ev0, hwb _ List.mem_cons_self, hw8, fun H7 s7 => ⟨(by show 2 ≤ sizeLine; decide), fun t ht => fin H7 t s7 ht⟩⟩
      | up =>
        refine ite_f (by decide) ⟨_, rfl, rfl, _, rfl, ?_⟩
        refine ite_f (by decide) ?_
        refine ⟨_, rfl, _, _, rfl, .inl ⟨_, SqL.of hu6, rfl⟩, rfl, _, rfl, ?_⟩
        refine ite_t (by first | rfl | simp) ?_
        exact ⟨_, rfl, _, rfl, _, rfl, _, rfl, lu, _, _, _, rfl, rfl, SqL.of hu6, rfl, _, _, subs, _, _, _, _, _, rfl, hD6, ev0, hwb _ List.mem_cons_self, hw8, fun H7 s7 => ⟨(by show 2 ≤ sizeLine; decide), fun t ht => fin H7 t s7 ht⟩⟩
      | down =>
        refine ite_f (by decide) ⟨_, rfl, rfl, _, rfl, ?_⟩
        refine ite_f (by decide) ?_
        refine ⟨_, rfl, _, _, rfl, .inl ⟨_, SqL.of hu6, rfl⟩, rfl, _, rfl, ?_⟩
        refine ite_t (by first | rfl | simp) ?_
        exact ⟨_, rfl, _, rfl, _, rfl, _, rfl, lu, _, _, _, rfl, rfl, SqL.of hu6, rfl, _, _, subs, _, _, _, _, _, rfl, hD6, ev0, hwb _ List.mem_cons_self, hw8, fun H7 s7 => ⟨(by show 2 ≤ sizeLine; decide), fun t ht => fin H7 t s7 ht⟩⟩
      | cut =>
        refine ite_f (by decide) ⟨_, rfl, rfl, _, rfl, ?_⟩
        refine ite_f (by decide) ?_
        refine ⟨_, rfl, _, _, rfl, .inl ⟨_, SqL.of hu6, rfl⟩, rfl, _, rfl, ?_⟩
        refine ite_t (by first | rfl | simp) ?_
        exact ⟨_, rfl, _, rfl, _, rfl, _, rfl, lu, _, _, _, rfl, rfl, SqL.of hu6, rfl, _, _, subs, _, _, _, _, _, rfl, hD6, ev0, hwb _ List.mem_cons_self, hw8, fun H7 s7 => ⟨(by show 2 ≤ sizeLine; decide), fun t ht => fin H7 t s7 ht⟩⟩
      | table =>
        refine ite_f (by decide) ⟨_, rfl, rfl, _, rfl, ?_⟩
        refine ite_f (by decide) ?_
        refine ⟨_, rfl, _, _, rfl, .inl ⟨_, SqL.of hu6, rfl⟩, rfl, _, rfl, ?_⟩
        refine ite_t (by first | rfl | simp) ?_
        exact ⟨_, rfl, _, rfl, _, rfl, _, rfl, lu, _, _, _, rfl, rfl, SqL.of hu6, rfl, _, _, subs, _, _, _, _, _, rfl, hD6, ev0, hwb _ List.mem_cons_self, hw8, fun H7 s7 => ⟨(by show 2 ≤ sizeLine; decide), fun t ht => fin H7 t s7 ht⟩⟩
      | and =>
        refine ite_f (by decide) ⟨_, rfl, rfl, _, rfl, ?_⟩
        refine ite_f (by decide) ?_
        refine ⟨_, rfl, _, _, rfl, .inl ⟨_, SqL.of hu6, rfl⟩, rfl, _, rfl, ?_⟩
        refine ite_f (by first | rfl | simp) ?_
        exact ⟨_, rfl, _, rfl, _, rfl, _, rfl, lu, _, _, _, rfl, rfl, SqL.of hu6, rfl, _, rfl, lu, _, _, _, rfl, rfl, SqL.of hu6, rfl, _, _, _, _, _, _, rfl, ev0, by decide, hwb _ List.mem_cons_self, hw8, (by show 2 ≤ sizeLine; decide), fun t ht => fin _ t (Same.refl _) ht⟩
      | or =>
        refine ite_f (by decide) ⟨_, rfl, rfl, _, rfl, ?_⟩
        refine ite_f (by decide) ?_
        refine ⟨_, rfl, _, _, rfl, .inl ⟨_, SqL.of hu6, rfl⟩, rfl, _, rfl, ?_⟩
        refine ite_f (by first | rfl | simp) ?_
        exact ⟨_, rfl, _, rfl, _, rfl, _, rfl, lu, _, _, _, rfl, rfl, SqL.of hu6, rfl, _, rfl, lu, _, _, _, rfl, rfl, SqL.of hu6, rfl, _, _, _, _, _, _, rfl, ev0, by decide, hwb _ List.mem_cons_self, hw8, (by show 2 ≤ sizeLine; decide), fun t ht => fin _ t (Same.refl _) ht⟩
      | odd =>
        refine ite_f (by decide) ⟨_, rfl, rfl, _, rfl, ?_⟩
        refine ite_f (by decide) ?_
        refine ⟨_, rfl, _, _, rfl, .inl ⟨_, SqL.of hu6, rfl⟩, rfl, _, rfl, ?_⟩
        refine ite_f (by first | rfl | simp) ?_
        exact ⟨_, rfl, _, rfl, _, rfl, _, rfl, lu, _, _, _, rfl, rfl, SqL.of hu6, rfl, _, rfl, lu, _, _, _, rfl, rfl, SqL.of hu6, rfl, _, _, _, _, _, _, rfl, ev0, by decide, hwb _ List.mem_cons_self, hw8, (by show 2 ≤ sizeLine; decide), fun t ht => fin _ t (Same.refl _) ht⟩
      | sum =>
        refine ite_f (by decide) ⟨_, rfl, rfl, _, rfl, ?_⟩
        refine ite_f (by decide) ?_
        refine ⟨_, rfl, _, _, rfl, .inl ⟨_, SqL.of hu6, rfl⟩, rfl, _, rfl, ?_⟩
        refine ite_f (by first | rfl | simp) ?_
        exact ⟨_, rfl, _, rfl, _, rfl, _, rfl, lu, _, _, _, rfl, rfl, SqL.of hu6, rfl, _, rfl, lu, _, _, _, rfl, rfl, SqL.of hu6, rfl, _, _, _, _, _, _, rfl, ev0, by decide, hwb _ List.mem_cons_self, hw8, (by show 2 ≤ sizeLine; decide), fun t ht => fin _ t (Same.refl _) ht⟩
      | less =>
        refine ite_f (by decide) ⟨_, rfl, rfl, _, rfl, ?_⟩
        refine ite_f (by decide) ?_
        refine ⟨_, rfl, _, _, rfl, .inl ⟨_, SqL.of hu6, rfl⟩, rfl, _, rfl, ?_⟩
        refine ite_f (by first | rfl | simp) ?_
        exact ⟨_, rfl, _, rfl, _, rfl, _, rfl, lu, _, _, _, rfl, rfl, SqL.of hu6, rfl, _, rfl, lu, _, _, _, rfl, rfl, SqL.of hu6, rfl, _, _, _, _, _, _, rfl, ev0, by decide, hwb _ List.mem_cons_self, hw8, (by show 2 ≤ sizeLine; decide), fun t ht => fin _ t (Same.refl _) ht⟩
      | under =>
        refine ite_f (by decide) ⟨_, rfl, rfl, _, rfl, ?_⟩
        refine ite_f (by decide) ?_
        refine ⟨_, rfl, _, _, rfl, .inl ⟨_, SqL.of hu6, rfl⟩, rfl, _, rfl, ?_⟩
        refine ite_f (by first | rfl | simp) ?_
        exact ⟨_, rfl, _, rfl, _, rfl, _, rfl, lu, _, _, _, rfl, rfl, SqL.of hu6, rfl, _, rfl, lu, _, _, _, rfl, rfl, SqL.of hu6, rfl, _, _, _, _, _, _, rfl, ev0, by decide, hwb _ List.mem_cons_self, hw8, (by show 2 ≤ sizeLine; decide), fun t ht => fin _ t (Same.refl _) ht⟩
      | same =>
        refine ite_f (by decide) ⟨_, rfl, rfl, _, rfl, ?_⟩
        refine ite_f (by decide) ?_
        refine ⟨_, rfl, _, _, rfl, .inl ⟨_, SqL.of hu6, rfl⟩, rfl, _, rfl, ?_⟩
        refine ite_f (by first | rfl | simp) ?_
        exact ⟨_, rfl, _, rfl, _, rfl, _, rfl, lu, _, _, _, rfl, rfl, SqL.of hu6, rfl, _, rfl, lu, _, _, _, rfl, rfl, SqL.of hu6, rfl, _, _, _, _, _, _, rfl, ev0, by decide, hwb _ List.mem_cons_self, hw8, (by show 2 ≤ sizeLine; decide), fun t ht => fin _ t (Same.refl _) ht⟩
theorem ok_worth (T : Tx w K mg A) (G_measured : FnOk P w K mg base CX0 9 A.a_measured A.d_measured ["saying", "widths", "numbers"] (sp_meas 6)) : FnOk P w K mg base CX0 10 A.a_worth A.d_worth ["saying", "widths", "numbers"] (sp_worth 6) := by
  refine T.F_worth.ok sc_worth (fun vs H Q E h => ?_) (fun cdv A' outer s H vs Q E hr h => ?_)
  · obtain ⟨d, v, wd, nd, wk, nk, w, x, rfl, hD, hwd, hnd, hM, q⟩ := h
    rfl
  obtain ⟨d, v, wd, nd, wk, nk, w, x, rfl, hD, hwd, hnd, hM, q⟩ := h
  refine ⟨_, (pss_one (ps_ret (pe_ix ix_tup (pe_call G_measured (hr.mono (by first | decide | omega)) rfl T.M_measured T.F_measured.kp T.B_measured .nil pass0 (pa_cons (pv 0) (pa_cons (pv 1) (pa_cons (pv 2) pa_nil)))) pe_int (fun _ _ => rfl)))), ?_⟩
  exact ⟨_, rfl, _, rfl, _, rfl, d, v, wd, nd, wk, nk, w, x, rfl, hD, hwd, hnd, hM, fun p H' hp s' hp' => ⟨p, _, _, _, rfl, rfl, SqT.of hp', rfl, q H' s'⟩⟩
theorem ok_L_bag (T : Tx w K mg A) : FnOk P w K mg base CX0 1 A.a_L_bag A.d_L_bag ["_law_script", "_law_at"] (sp_L_bag K) := by
  refine T.F_L_bag.ok sc_L_bag (fun vs H Q E h => ?_) (fun cdv A' outer s H vs Q E hr h => ?_)
  · obtain ⟨a, ns, i, rfl, hS, h63, hi, q⟩ := h
    rfl
  obtain ⟨a, ns, i, rfl, hS, h63, hi, q⟩ := h
  refine ⟨_, (pss_cons (ps_set (i := 2) sc_L_bag.nd rfl (Or.inl rfl) pe_int)
    (pss_cons (ps_if (pt_cmpR op_lt (pv 1) (pe_callB call_len rfl T.len PySem.boot_len (pa_cons (pv 0) pa_nil)) (nomark _)) (pss_one (ps_set (i := 2) sc_L_bag.nd rfl (Or.inl rfl) (pe_callB call_abs rfl T.abs PyProof.Rows.boot_abs (pa_cons (pe_ix ix_list (pv 0) (pv 1) (fun _ _ => rfl)) pa_nil)))) pss_nil)
    (pss_cons (ps_set (i := 3) sc_L_bag.nd rfl (Or.inl rfl) (pe_op op_add (pe_op op_mul pe_int (pv 1)) pe_int))
    (pss_cons (ps_for PassesOwn.never rfl (pi_range1 rfl T.range (pa_cons (pe_callB (call_min2 rfl) rfl T.min PyProof.Rows.boot_min (pa_cons (pe_callB call_len rfl T.len PySem.boot_len (pa_cons (pv 0) pa_nil)) (pa_cons pe_int pa_nil))) pa_nil)) (pg_name (i := 4) sc_L_bag.nd rfl (Or.inl rfl))
        (pss_one (ps_set (i := 3) sc_L_bag.nd rfl (Or.inl rfl) (pe_op op_mod (pe_op op_add (pe_op op_add (pe_op op_mul (pv 3) pe_int) (pe_op op_mod (pe_ix ix_list (pv 0) (pv 4) (fun _ _ => rfl)) pe_int)) (pe_op op_mul pe_int (pv 4))) pe_int))))
    (pss_one (ps_ret (pe_lst (pa_cons (pe_callB (call_max2 rfl) rfl T.max PyProof.Rows.boot_max (pa_cons pe_int (pa_cons (pe_op op_sub (pv 2) (pe_op op_pow pe_int pe_int)) pa_nil))) (pa_cons (pe_op op_add (pv 3) pe_int) pa_nil))))))))), ?_⟩
  have hl : (ns.map V.int).length = ns.length := List.length_map _
  refine ⟨_, rfl, _, rfl, _, _, rfl, .inl ⟨_, hS, rfl⟩, _, _, rfl, rfl, _, rfl, ?_⟩
  refine ite2 (fun c => ?_) (fun c => ?_)
  · have c' : i < (((ns.map V.int).length : Nat) : Int) := of_decide_eq_true c
    rw [hl] at c'
    obtain ⟨v, hv⟩ := at_mapI hi c'
    refine ⟨_, rfl, _, rfl, a, _, _, _, rfl, rfl, hS, hv, _, rfl, ?_⟩
    refine ⟨_, rfl, _, _, rfl, rfl, .inl ⟨by decide, by decide⟩, _, _, rfl, rfl, ?_⟩
    refine ⟨_, rfl, _, _, rfl, .inl ⟨_, hS, rfl⟩, _, _, rfl, _, rfl, ?_, ?_, for_range (lo := 0) (fun k σ H' => ∃ (m : Int) (x : Option V), σ = [some (.ref a), some (.int i), some (.int (if v < 0 then -v else v)), some (.int m), x] ∧ H' = H) ⟨_, _, rfl, rfl⟩ ?_ ?_⟩
    · split <;> omega
    · split <;> omega
    · rintro k σ H' hk ⟨m, x, rfl, rfl⟩
      have hk' : k < ns.length := by
        rw [hl] at hk
        split at hk <;> omega
      obtain ⟨u, hu⟩ := at_map (ns := ns) hk'
      refine ⟨_, rfl, _, _, rfl, rfl, .inr ⟨by decide, by decide⟩, _, rfl, _, rfl, a, _, _, _, rfl, rfl, hS, (by rw [Int.zero_add]; exact hu), _, _, rfl, rfl, (by show (0 : Int) < 2147483647; decide), _, _, rfl, rfl, _, rfl, _, _, rfl, rfl, .inl ⟨by decide, by decide⟩, _, _, rfl, rfl, _, _, rfl, rfl, (by show (0 : Int) < 2147483629; decide), ?_⟩
      exact ⟨_, _, rfl, rfl⟩
    · rintro σ H' ⟨m, x, rfl, rfl⟩
      refine ⟨_, rfl, _, _, rfl, rfl, ⟨by decide, by decide, by decide⟩, _, _, rfl, rfl, _, _, rfl, _, rfl, _, _, rfl, rfl, (by show 2 ≤ sizeLine; decide), fun l hl' => ?_⟩
      exact q l _ _ hl' (by split <;> omega)
  · refine ⟨_, rfl, _, _, rfl, rfl, .inl ⟨by decide, by decide⟩, _, _, rfl, rfl, ?_⟩
    refine ⟨_, rfl, _, _, rfl, .inl ⟨_, hS, rfl⟩, _, _, rfl, _, rfl, ?_, ?_, for_range (lo := 0) (fun k σ H' => ∃ (m : Int) (x : Option V), σ = [some (.ref a), some (.int i), some (.int 0), some (.int m), x] ∧ H' = H) ⟨_, _, rfl, rfl⟩ ?_ ?_⟩
    · split <;> omega
    · split <;> omega
    · rintro k σ H' hk ⟨m, x, rfl, rfl⟩
      have hk' : k < ns.length := by
        rw [hl] at hk
        split at hk <;> omega
      obtain ⟨u, hu⟩ := at_map (ns := ns) hk'
      refine ⟨_, rfl, _, _, rfl, rfl, .inr ⟨by decide, by decide⟩, _, rfl, _, rfl, a, _, _, _, rfl, rfl, hS, (by rw [Int.zero_add]; exact hu), _, _, rfl, rfl, (by show (0 : Int) < 2147483647; decide), _, _, rfl, rfl, _, rfl, _, _, rfl, rfl, .inl ⟨by decide, by decide⟩, _, _, rfl, rfl, _, _, rfl, rfl, (by show (0 : Int) < 2147483629; decide), ?_⟩
      exact ⟨_, _, rfl, rfl⟩
    · rintro σ H' ⟨m, x, rfl, rfl⟩
      refine ⟨_, rfl, _, _, rfl, rfl, ⟨by decide, by decide, by decide⟩, _, _, rfl, rfl, _, _, rfl, _, rfl, _, _, rfl, rfl, (by show 2 ≤ sizeLine; decide), fun l hl' => ?_⟩
      exact q l _ _ hl' (by split <;> omega)
theorem ok_L_take (T : Tx w K mg A) : FnOk P w K mg base CX0 1 A.a_L_take A.d_L_take ["_law_bag_here", "_law_many"] sp_L_take := by
  refine T.F_L_take.ok sc_L_take (fun vs H Q E h => ?_) (fun cdv A' outer s H vs Q E hr h => ?_)
  · obtain ⟨l, many, rfl, ⟨b0, b1, hl, hb0⟩, h0, hbig, q⟩ := h
    rfl
  obtain ⟨l, many, rfl, ⟨b0, b1, hl, hb0⟩, h0, hbig, q⟩ := h
  refine ⟨_, (pss_cons (ps_if (pt_cmpR op_gt (pe_ix ix_list (pv 0) pe_int (fun _ _ => rfl)) pe_int (nomark _)) (pss_cons (ps_set (i := 2) sc_L_take.nd rfl (Or.inl rfl) (pe_op op_mod (pe_ix ix_list (pv 0) pe_int (fun _ _ => rfl)) (pv 1)))
    (pss_cons (ps_asg (pe_op op_fdivL (pe_ix ix_list (pv 0) pe_int (fun _ _ => rfl)) (pv 1)) (pg_sub (pv 0) pe_int set_list))
    (pss_one (ps_ret (pv 2))))) pss_nil)
    (pss_cons (ps_asg (pe_op op_mod (pe_op op_add (pe_op op_mul (pe_ix ix_list (pv 0) pe_int (fun _ _ => rfl)) pe_int) pe_int) pe_int) (pg_sub (pv 0) pe_int set_list))
    (pss_one (ps_ret (pe_op op_mod (pe_op op_mod (pe_op op_mul (pe_op op_fdivL (pe_ix ix_list (pv 0) pe_int (fun _ _ => rfl)) pe_int) pe_int) pe_int) (pv 1)))))), ?_⟩
  refine ⟨_, rfl, l, _, 0, _, rfl, rfl, SqL.of hl, rfl, _, _, rfl, rfl, _, rfl, ?_⟩
  refine ite2 (fun c => ?_) (fun c => ?_)
  · have c' : 0 < b0 := of_decide_eq_true c
    refine ⟨_, rfl, l, _, 0, _, rfl, rfl, SqL.of hl, rfl, _, rfl, _, _, rfl, rfl, h0, ?_⟩
    refine ⟨_, rfl, l, _, 0, _, rfl, rfl, SqL.of hl, rfl, _, rfl, _, _, rfl, rfl, ⟨h0, hbig⟩, _, rfl, l, _, 0, 0, rfl, rfl, hl, rfl, ?_⟩
    refine ⟨_, rfl, ?_⟩
    exact q _ _ (Int.emod_nonneg _ (by omega)) (Int.emod_lt_of_pos _ h0) (Bg.put _ _ (Int.ediv_nonneg hb0 (by omega)))
  · refine ⟨_, rfl, l, _, 1, _, rfl, rfl, SqL.of hl, rfl, _, _, rfl, rfl, .inr ⟨by decide, by decide⟩, _, _, rfl, rfl, _, _, rfl, rfl, (by show (0 : Int) < 2147483647; decide), _, rfl, l, _, 1, 1, rfl, rfl, hl, rfl, ?_⟩
    refine ⟨_, rfl, l, _, 1, _, rfl, rfl, SqL.of upd_same, rfl, _, _, rfl, rfl, ⟨by decide, by decide⟩, _, _, rfl, rfl, .inr ⟨by decide, by decide⟩, _, _, rfl, rfl, (by show (0 : Int) < 2147483629; decide), _, rfl, _, _, rfl, rfl, h0, ?_⟩
    exact q _ _ (Int.emod_nonneg _ (by omega)) (Int.emod_lt_of_pos _ h0) (Bg.put _ _ hb0)
theorem ok_L_names (T : Tx w K mg A) (G_L_take : FnOk P w K mg base CX0 1 A.a_L_take A.d_L_take ["_law_bag_here", "_law_many"] sp_L_take) : FnOk P w K mg base CX0 2 A.a_L_names A.d_L_names ["_law_bag_here"] sp_L_names := by
  refine T.F_L_names.ok sc_L_names (fun vs H Q E h => ?_) (fun cdv A' outer s H vs Q E hr h => ?_)
  · obtain ⟨l, rfl, hb, q⟩ := h
    rfl
  obtain ⟨l, rfl, hb, q⟩ := h
  conv in (defBody _) => whnf
  simp only [bigL_eq, bigT_eq]
  refine ⟨_, (pss_cons (ps_comp [0] sc_L_names.nd (i := 1) rfl (Or.inl rfl) (fun _ _ h => h) rfl (pi_range1 rfl T.range (pa_cons (pe_op op_add pe_int (pe_call G_L_take (hr.mono (by first | decide | omega)) rfl T.M_L_take T.F_L_take.kp T.B_L_take .nil pass0 (pa_cons (pv 0) (pa_cons pe_int pa_nil)))) pa_nil)) (fun _ _ _ _ => pts_nil) (fun _ _ _ _ => (pe_ix ix_str pe_str (pe_call G_L_take (hr.mono (by first | decide | omega)) rfl T.M_L_take T.F_L_take.kp T.B_L_take .nil pass0 (pa_cons (pv 1) (pa_cons pe_int pa_nil))) (fun _ _ => rfl))) rfl (show ∀ j ∈ ([0] : List Nat), j < 6 by decide) (show (["_law_k", "_law_bag_here"] : List Str).Nodup by decide +kernel) (by with_unfolding_all rfl))
    (pss_cons (ps_set (i := 2) sc_L_names.nd rfl (Or.inl rfl) (pe_call G_L_take (hr.mono (by first | decide | omega)) rfl T.M_L_take T.F_L_take.kp T.B_L_take .nil pass0 (pa_cons (pv 0) (pa_cons (pe_callB call_len rfl T.len PySem.boot_len (pa_cons (pv 1) pa_nil)) pa_nil))))
    (pss_cons (ps_set (i := 3) sc_L_names.nd rfl (Or.inl rfl) (pe_lst pa_nil))
    (pss_cons (ps_for PassesOwn.never rfl (pi_list (pe_bigL rfl)) (pg_name (i := 4) sc_L_names.nd rfl (Or.inl rfl))
        (pss_cons (ps_set (i := 5) sc_L_names.nd rfl (Or.inl rfl) (pe_op op_add_str (pe_op op_add_str (pe_bm PySem.F.plainAttrs_str PySem.F.slot_str_join PySem.F.type_str_join mt_join pe_str (pa_cons (pe_slice sl_list (pv 1) po_none (po_some (pv 2))) pa_nil)) (pv 4)) (pe_bm PySem.F.plainAttrs_str PySem.F.slot_str_join PySem.F.type_str_join mt_join pe_str (pa_cons (pe_slice sl_list (pv 1) (po_some (pe_op op_add (pv 2) pe_int)) po_none) pa_nil))))
    (pss_one (ps_expr (pe_bm PySem.F.plainAttrs_list PySem.F.slot_list_append PySem.F.type_list_append mt_append (pv 3) (pa_cons (pe_ix ix_list (pe_lst (pa_cons (pv 5) (pa_cons pe_str pa_nil))) (pe_callTy call_int1 rfl T.int PyProof.Rows.boot_int (pa_cons (pe_cmpR op_eq (pv 5) pe_str (nomark _)) pa_nil)) (fun _ _ => rfl)) pa_nil))))) (hs := by intro _; unfold bigL; rfl))
    (pss_one (ps_ret (pv 3))))))), ?_⟩
  refine ⟨_, rfl, l, 8, rfl, hb, by decide, by decide, fun d H1 d0 d1 hb1 => ?_⟩
  refine ⟨_, _, rfl, rfl, _, rfl, by omega, by omega, comp_range (lo := 0) (fun i ys H' => Bg l H H' ∧ ∃ zs : List Str, ys = zs.map V.str ∧ zs.length = i ∧ ∀ z ∈ zs, z.length = 1) ⟨hb1, [], rfl, rfl, (fun _ h => nomatch h)⟩ ?_ ?_ ?_⟩
  · rintro i ys H' hi ⟨g, zs, rfl, hl, hz⟩
    rw [List.length_map]
    exact smallL (by omega)
  · rintro i ys H' hi ⟨g, zs, rfl, hl, hz⟩
    unfold tYes
    refine iteT ⟨_, rfl, l, 26, rfl, g.2, by decide, by decide, fun e H3 e0 e1 hb3 => ?_⟩
    obtain ⟨c, hc, _⟩ := at_any (xs := ("abcdefghijklmnopqrstuvwxyz" : Str).cps.toList) e0 (show e < 26 from e1)
    refine ⟨_, _, c, rfl, rfl, (by decide), hc, ?_⟩
    refine ⟨g.trans hb3, zs ++ [⟨#[c]⟩], by rw [List.map_append]; rfl, by rw [List.length_append, hl]; rfl, fun z hz' => ?_⟩
    rcases List.mem_append.mp hz' with h | h
    · exact hz z h
    · rw [List.mem_singleton.mp h]; rfl
  · rintro ys H2 ⟨g, zs, rfl, hl, hz⟩ ps hps
    have nps : ps ≠ l := g.2.ne hps
    have g3 := g.trans (Bg.new g.2 hps (.lst (zs.map V.str)))
    have hps3 := upd_same (H := H2) (a := ps) (o := .lst (zs.map V.str))
    generalize upd H2 ps (.lst (zs.map V.str)) = H3 at g3 hps3 ⊢
    have hzl : 1 ≤ zs.length ∧ zs.length ≤ 8 := by omega
    refine ⟨_, rfl, _, rfl, _, _, rfl, .inl ⟨_, SqL.of hps3, rfl⟩, l, _, rfl, g3.2, (by rw [List.length_map]; omega), (by rw [List.length_map]; exact Int.lt_trans (show (zs.length : Int) < 100 by omega) (by decide)), fun k H4 k0 k1 hb4 => ?_⟩
    rw [List.length_map] at k1
    obtain ⟨k, rfl⟩ := Int.eq_ofNat_of_zero_le k0
    have g4 := g3.trans hb4
    have hps4 := hb4.1 ps _ nps hps3
    refine ⟨(by show 0 ≤ sizeLine; decide), fun pn hpn => ?_⟩
    have npn : pn ≠ l := hb4.2.ne hpn
    have hpnH : H pn = none := by
      cases hh : H pn with
      | none => rfl
      | some o => rw [g4.1 pn o npn hh] at hpn; cases hpn
    have g5 := g4.trans (Bg.new hb4.2 hpn (.lst []))
    have hps5 := (same_new hpn (.lst [])) _ _ hps4
    have hpn5 := upd_same (H := H4) (a := pn) (o := .lst [])
    have nspn : ps ≠ pn := ne_of_none hps4 hpn
    generalize upd H4 pn (.lst []) = H5 at g5 hps5 hpn5 ⊢
    refine ⟨(by show 6 ≤ sizeLine; decide), fun pc hpc => ?_⟩
    have npc : pc ≠ l := g5.2.ne hpc
    have ncn : pc ≠ pn := (ne_of_none hpn5 hpc).symm
    have g6 := g5.trans (Bg.new g5.2 hpc (.lst [.str "k", .str "x", .str "q", .str "z", .str "v", .str "j"]))
    have hps6 := (same_new hpc (.lst [.str "k", .str "x", .str "q", .str "z", .str "v", .str "j"])) _ _ hps5
    have hpn6 := (same_new hpc (.lst [.str "k", .str "x", .str "q", .str "z", .str "v", .str "j"])) _ _ hpn5
    have hpc6 := upd_same (H := H5) (a := pc) (o := .lst [.str "k", .str "x", .str "q", .str "z", .str "v", .str "j"])
    refine ⟨pc, rfl, ⟨_, SqL.of hpc6⟩, for_list (xs := [.str "k", .str "x", .str "q", .str "z", .str "v", .str "j"]) (fun i σ H' => ∃ (z4 z5 : Option V) (us : List Str), σ = [some (.ref l), some (.ref ps), some (.int (k : Int)), some (.ref pn), z4, z5] ∧ Bg l H H' ∧ H' ps = some (.lst (zs.map V.str)) ∧ H' pc = some (.lst [.str "k", .str "x", .str "q", .str "z", .str "v", .str "j"]) ∧ H' pn = some (.lst (us.map V.str)) ∧ us.length = i) ⟨_, _, [], rfl, g6, hps6, hpc6, hpn6, rfl⟩ ?_ ?_ ?_⟩
    · rintro i σ H' _ ⟨_, _, _, _, _, _, hc, _⟩
      exact SqL.of hc
    · rintro i x σ H' hx ⟨z4, z5, us, rfl, g, hs', hc', hn', hul⟩
      have hx' : ∃ c : Str, x = .str c ∧ c.length = 1 ∧ i < 6 := by
        match i, hx with
        | 0, hx => cases hx; exact ⟨_, rfl, rfl, by decide⟩
        | 1, hx => cases hx; exact ⟨_, rfl, rfl, by decide⟩
        | 2, hx => cases hx; exact ⟨_, rfl, rfl, by decide⟩
        | 3, hx => cases hx; exact ⟨_, rfl, rfl, by decide⟩
        | 4, hx => cases hx; exact ⟨_, rfl, rfl, by decide⟩
        | 5, hx => cases hx; exact ⟨_, rfl, rfl, by decide⟩
        | i + 6, hx => cases hx
      obtain ⟨c, rfl, hc1, hi6⟩ := hx'
      have hAl : (Txt.join "" (zs.take k)).length ≤ 8 := by
        rw [join_len]
        exact Nat.le_trans (sum_ones fun z hz' => hz z (List.mem_of_mem_take hz')) (by rw [List.length_take]; omega)
      have hBl : (Txt.join "" (zs.drop (k + 1))).length ≤ 8 := by
        rw [join_len]
        exact Nat.le_trans (sum_ones fun z hz' => hz z (List.mem_of_mem_drop hz')) (by rw [List.length_drop]; omega)
      have s1 : (zs.take k |>.map (·.length)).sum ≤ 8 := Nat.le_trans (sum_ones fun z hz' => hz z (List.mem_of_mem_take hz')) (by rw [List.length_take]; omega)
      have s2 : (zs.drop (k + 1) |>.map (·.length)).sum ≤ 8 := Nat.le_trans (sum_ones fun z hz' => hz z (List.mem_of_mem_drop hz')) (by rw [List.length_drop]; omega)
      have l1 : (zs.take k).length ≤ 8 := by rw [List.length_take]; omega
      have l2 : (zs.drop (k + 1)).length ≤ 8 := by rw [List.length_drop]; omega
      refine ⟨rfl, _, rfl, _, rfl, _, rfl, ps, _, rfl, SqL.of hs', fun p1 hp1 => ?_⟩
      rw [cut_to (by rw [List.length_map]; omega), ← List.map_take]
      have t1 := same_new hp1 (.lst ((zs.take k).map V.str))
      refine ⟨"", p1, zs.take k, rfl, rfl, SqL.of upd_same, (by show _ + _ * 0 ≤ 16777216; omega), ?_⟩
      generalize Txt.join "" (zs.take k) = AA at hAl ⊢
      refine ⟨_, rfl, _, _, rfl, rfl, small (by omega), ?_⟩
      generalize upd H' p1 (.lst ((zs.take k).map V.str)) = Ha at t1 ⊢
      refine ⟨rfl, _, rfl, _, rfl, _, _, rfl, rfl, _, rfl, ps, _, rfl, SqL.of (t1 _ _ hs'), fun p2 hp2 => ?_⟩
      have hcut : cutV (zs.map V.str) (some ((k : Int) + 1)) none = (zs.drop (k + 1)).map V.str := by
        rw [show ((k : Int) + 1) = ((k + 1 : Nat) : Int) by push_cast; rfl, cut_from (by rw [List.length_map]; omega), ← List.map_drop]
      rw [hcut]
      have t2 := t1.trans (same_new hp2 (.lst ((zs.drop (k + 1)).map V.str)))
      refine ⟨"", p2, zs.drop (k + 1), rfl, rfl, SqL.of upd_same, (by show _ + _ * 0 ≤ 16777216; omega), ?_⟩
      generalize Txt.join "" (zs.drop (k + 1)) = BB at hBl ⊢
      refine ⟨_, _, rfl, rfl, small (by rw [Str.length_append]; omega), ?_⟩
      show tSeq _ _ _ _ (upd Ha p2 (.lst ((zs.drop (k + 1)).map V.str)))
      generalize upd Ha p2 (.lst ((zs.drop (k + 1)).map V.str)) = Hb at t2 ⊢
      have gb := g.trans (g.2.same t2)
      have hsb := t2 _ _ hs'
      have hcb := t2 _ _ hc'
      have hnb := t2 _ _ hn'
      generalize AA ++ c ++ BB = nn
      refine ⟨_, rfl, .inl ⟨rfl, _, SqL.of hnb⟩, _, rfl, (by show 2 ≤ sizeLine; decide), fun p3 hp3 => ?_⟩
      have t3 := same_new hp3 (.lst [.str nn, .str "joinj"])
      have f3 := upd_same (H := Hb) (a := p3) (o := .lst [.str nn, .str "joinj"])
      generalize upd Hb p3 (.lst [.str nn, .str "joinj"]) = Hc at t3 f3 ⊢
      have hat : ∃ y : Str, atI [V.str nn, V.str "joinj"] (if decide (V.str nn = V.str "join") = true then 1 else 0) = some (.str y) := by
        split
        · exact ⟨_, rfl⟩
        · exact ⟨_, rfl⟩
      obtain ⟨y, hy⟩ := hat
      refine ⟨_, rfl, rfl, .inr ⟨_, rfl, p3, _, _, _, rfl, rfl, SqL.of f3, hy, pn, _, _, rfl, rfl, t3 _ _ hnb, smallL (by rw [List.length_map]; omega), ?_⟩⟩
      refine ⟨_, _, us ++ [y], rfl, (gb.trans (gb.2.same t3)).set hpnH npn _, ?_, ?_, ?_, by rw [List.length_append, hul]; rfl⟩
      · rw [upd_ne nspn]; exact t3 _ _ hsb
      · rw [upd_ne ncn]; exact t3 _ _ hcb
      · rw [upd_same, List.map_append]; rfl
    · rintro σ H' ⟨z4, z5, us, rfl, g, hs', hc', hn', hul⟩
      exact ⟨_, rfl, q pn us H' hul npn hpnH g hn'⟩
theorem ok_L_rooms (T : Tx w K mg A) (G_L_take : FnOk P w K mg base CX0 1 A.a_L_take A.d_L_take ["_law_bag_here", "_law_many"] sp_L_take) : FnOk P w K mg base CX0 2 A.a_L_rooms A.d_L_rooms ["_law_bag_here", "_law_room", "_law_many"] sp_L_rooms := by
  refine T.F_L_rooms.ok sc_L_rooms (fun vs H Q E h => ?_) (fun cdv A' outer s H vs Q E hr h => ?_)
  · obtain ⟨l, room, many, rfl, hb, hm0, hm3, hmr, hroom, q⟩ := h
    rfl
  obtain ⟨l, room, many, rfl, hb, hm0, hm3, hmr, hroom, q⟩ := h
  refine ⟨_, (pss_cons (ps_set (i := 3) sc_L_rooms.nd rfl (Or.inl rfl) (pe_op op_sub (pv 1) (pv 2)))
    (pss_cons (ps_set (i := 4) sc_L_rooms.nd rfl (Or.inl rfl) (pe_lst pa_nil))
    (pss_cons (ps_for PassesOwn.never rfl (pi_range1 rfl T.range (pa_cons (pv 2) pa_nil)) (pg_name (i := 5) sc_L_rooms.nd rfl (Or.inl rfl))
        (pss_cons (ps_set (i := 6) sc_L_rooms.nd rfl (Or.inl rfl) (pv 3))
    (pss_cons (ps_if (pt_cmpR op_lt (pe_op op_add (pv 5) pe_int) (pv 2) (nomark _)) (pss_one (ps_set (i := 6) sc_L_rooms.nd rfl (Or.inl rfl) (pe_call G_L_take (hr.mono (by first | decide | omega)) rfl T.M_L_take T.F_L_take.kp T.B_L_take .nil pass0 (pa_cons (pv 0) (pa_cons (pe_op op_add (pv 3) pe_int) pa_nil))))) pss_nil)
    (pss_cons (ps_expr (pe_bm PySem.F.plainAttrs_list PySem.F.slot_list_append PySem.F.type_list_append mt_append (pv 4) (pa_cons (pe_op op_add pe_int (pv 6)) pa_nil)))
    (pss_one (ps_set (i := 3) sc_L_rooms.nd rfl (Or.inl rfl) (pe_op op_sub (pv 3) (pv 6))))))))
    (pss_one (ps_ret (pv 4)))))), ?_⟩
  refine ⟨_, rfl, _, rfl, _, _, rfl, rfl, ?_⟩
  refine ⟨(by show 0 ≤ sizeLine; decide), fun p hp => ?_⟩
  have hpl : p ≠ l := hb.ne hp
  refine ⟨_, rfl, _, rfl, by omega, by omega, for_range (lo := 0) (fun i σ H' => ∃ (left : Int) (rs : List Int) (x y : Option V), σ = [some (.ref l), some (.int room), some (.int many), some (.int left), some (.ref p), x, y] ∧ 0 ≤ left ∧ left ≤ 1000 ∧ rs.length = i ∧ (∀ r ∈ rs, r ≤ 1001) ∧ Bg l H H' ∧ H' p = some (.lst (rs.map V.int))) ⟨_, [], none, none, rfl, by omega, by omega, rfl, (fun _ h => nomatch h), Bg.new hb hp _, upd_same⟩ ?_ ?_⟩
  · rintro i σ H1 hi ⟨left, rs, x, y, rfl, l0, l1, hrs, hrb, hb1, hp1⟩
    have fin : ∀ (more : Int) (H2 : Hp), 0 ≤ more → more ≤ left → Bg l H1 H2 → ∃ (left' : Int) (rs' : List Int) (x y : Option V), [some (V.ref l), some (.int room), some (.int many), some (.int (left - more)), some (.ref p), some (.int (0 + (i : Int))), some (.int more)] = [some (.ref l), some (.int room), some (.int many), some (.int left'), some (.ref p), x, y] ∧ 0 ≤ left' ∧ left' ≤ 1000 ∧ rs'.length = i + 1 ∧ (∀ r ∈ rs', r ≤ 1001) ∧ Bg l H (upd H2 p (.lst (rs.map V.int ++ [.int (1 + more)]))) ∧ (upd H2 p (.lst (rs.map V.int ++ [.int (1 + more)]))) p = some (.lst (rs'.map V.int)) := fun more H2 m0 m1 hb2 => by
      refine ⟨_, rs ++ [1 + more], _, _, rfl, by omega, by omega, by rw [List.length_append, hrs]; rfl, fun r hr => ?_, (hb1.trans hb2).set hp hpl _, by rw [upd_same, List.map_append]; rfl⟩
      rcases List.mem_append.mp hr with h | h
      · exact hrb r h
      · rw [List.mem_singleton.mp h]; omega
    have hlen : ∀ H2, Bg l H1 H2 → H2 p = some (.lst (rs.map V.int)) ∧ (rs.map V.int).length < sizeLine := fun H2 hb2 => ⟨hb2.1 p _ hpl hp1, by rw [List.length_map]; exact smallL (by omega)⟩
    refine ⟨_, rfl, ?_⟩
    refine ⟨_, rfl, _, _, rfl, rfl, _, rfl, _, _, rfl, rfl, _, rfl, ?_⟩
    refine ite2 (fun c => ?_) (fun c => ?_)
    · refine ⟨_, rfl, _, rfl, _, _, rfl, rfl, l, _, rfl, hb1.2, by omega, (by show left + 1 < bigB; exact Int.lt_trans (show left + 1 < 2000 by omega) (by decide)), fun more H2 m0 m1 hb2 => ?_⟩
      obtain ⟨hp2, hl2⟩ := hlen H2 hb2
      refine ⟨_, rfl, .inl ⟨rfl, _, SqL.of hp2⟩, _, rfl, _, _, rfl, rfl, p, _, _, rfl, rfl, hp2, hl2, ?_⟩
      refine ⟨_, rfl, _, rfl, _, _, rfl, rfl, ?_⟩
      exact fin more H2 m0 (by omega) hb2
    · obtain ⟨hp2, hl2⟩ := hlen H1 (Bg.refl hb1.2)
      refine ⟨_, rfl, .inl ⟨rfl, _, SqL.of hp2⟩, _, rfl, _, _, rfl, rfl, p, _, _, rfl, rfl, hp2, hl2, ?_⟩
      refine ⟨_, rfl, _, rfl, _, _, rfl, rfl, ?_⟩
      exact fin left H1 l0 (Int.le_refl _) (Bg.refl hb1.2)
  · rintro σ H1 ⟨left, rs, x, y, rfl, l0, l1, hrs, hrb, hb1, hp1⟩
    exact ⟨_, rfl, q p rs H1 hp hpl hb1 hp1 (by rw [hrs]; omega) hrb⟩
theorem ok_L_leaf (T : Tx w K mg A) (G_L_take : FnOk P w K mg base CX0 1 A.a_L_take A.d_L_take ["_law_bag_here", "_law_many"] sp_L_take) : FnOk P w K mg base CX0 2 A.a_L_leaf A.d_L_leaf ["_law_bag_here", "_law_widths", "_law_width"] sp_L_leaf := by
  refine T.F_L_leaf.ok sc_L_leaf (fun vs H Q E h => ?_) (fun cdv A' outer s H vs Q E hr h => ?_)
  · obtain ⟨l, wd, o, kvs, kv, w', rfl, hb, hwd, kw, gd, w1, w8, q⟩ := h
    rfl
  obtain ⟨l, wd, o, kvs, kv, w', rfl, hb, hwd, kw, gd, w1, w8, q⟩ := h
  have hu := hu_of hr
  refine ⟨_, (pss_cons (ps_comp [1, 2] sc_L_leaf.nd (i := 3) rfl (Or.inl rfl) (fun _ _ h => h) rfl (pi_dict (pv 1)) (fun _ _ _ _ => (pts_one (pt_cmpR op_eq (pe_dget hu (pv 1) (pv 0) (fun _ _ => rfl)) (pv 2) (nomark _)))) (fun _ _ _ _ => (pv 0)) rfl (show ∀ j ∈ ([1, 2] : List Nat), j < 4 by decide) (show (["_law_name", "_law_widths", "_law_width"] : List Str).Nodup by decide +kernel) (by with_unfolding_all rfl))
    (pss_cons (ps_if (PW.pt (pw_and (pt_cmpR op_gt (pe_callB call_len rfl T.len PySem.boot_len (pa_cons (pv 3) pa_nil)) pe_int (nomark _)) (pw_and1 (pt_cmpR op_lt (pe_call G_L_take (hr.mono (by first | decide | omega)) rfl T.M_L_take T.F_L_take.kp T.B_L_take .nil pass0 (pa_cons (pv 0) (pa_cons pe_int pa_nil))) pe_int (nomark _))))) (pss_one (ps_ret (pe_tup (pa_cons pe_str (pa_cons (pe_ix ix_list (pv 3) (pe_call G_L_take (hr.mono (by first | decide | omega)) rfl T.M_L_take T.F_L_take.kp T.B_L_take .nil pass0 (pa_cons (pv 0) (pa_cons (pe_callB call_len rfl T.len PySem.boot_len (pa_cons (pv 3) pa_nil)) pa_nil))) (fun _ _ => rfl)) pa_nil))))) pss_nil)
    (pss_one (ps_ret (pe_tup (pa_cons pe_str (pa_cons (pe_call G_L_take (hr.mono (by first | decide | omega)) rfl T.M_L_take T.F_L_take.kp T.B_L_take .nil pass0 (pa_cons (pv 0) (pa_cons (pe_op op_shl pe_int (pv 2)) pa_nil))) (pa_cons (pv 2) pa_nil)))))))), ?_⟩
  have hp2 := pow_pos2 w'.toNat
  have hp3 := pow_le2 (n := w'.toNat) (by omega)
  have hbig : (1 : Int) * 2 ^ w'.toNat < bigB := Int.lt_of_le_of_lt (by rw [Int.one_mul]; exact hp3) (by decide)
  have hpos : (0 : Int) < 1 * 2 ^ w'.toNat := by rw [Int.one_mul]; exact hp2
  have hkl := gd.2.2
  refine ⟨_, rfl, wd, o, kvs, rfl, hwd, comp_dict (fun i ys H' => H = H' ∧ ∃ us : List Str, ys = us.map V.str ∧ us.length ≤ i ∧ ∀ u ∈ us, kv u = some w') ⟨rfl, [], rfl, Nat.le_refl _, (fun _ h => nomatch h)⟩ ?_ ?_ ?_ ?_⟩
  · rintro i ys H' _ ⟨rfl, _⟩
    exact hwd
  · rintro i ys H' hi ⟨rfl, us, rfl, hu, _⟩
    rw [List.length_map]
    exact smallL (by omega)
  · rintro i kvp ys H' hx ⟨rfl, us, rfl, hu, huw⟩
    obtain ⟨x, j, e, j1, j8⟩ := gd.1 kvp (List.mem_of_getElem? hx)
    have hv := gd.2.1 kvp (List.mem_of_getElem? hx)
    subst e
    have hkv : kv x = some j := by
      have h1 := kw.1 x
      have hv' : valV kvs (.inr x) = some (.int j) := hv
      rw [hv'] at h1
      cases hk : kv x with
      | none => rw [hk] at h1; cases h1
      | some y => rw [hk] at h1; have := Option.some.inj h1; injection this with this; rw [this]
    refine ⟨_, rfl, _, rfl, wd, _, rfl, dgetR (.inr ⟨o, hwd⟩) hv, _, rfl, rfl, _, rfl, ?_⟩
    refine ite2 (fun c => ?_) (fun c => ?_)
    · have ej : j = w' := by have := of_decide_eq_true c; injection this
      refine ⟨_, rfl, rfl, us ++ [x], by rw [List.map_append]; rfl, by rw [List.length_append, List.length_singleton]; omega, fun u hu' => ?_⟩
      rcases List.mem_append.mp hu' with h | h
      · exact huw u h
      · rw [List.mem_singleton.mp h, hkv, ej]
    · exact ⟨rfl, us, rfl, by omega, huw⟩
  · rintro ys H' ⟨rfl, us, rfl, hu, huw⟩ ps hps
    have nps : ps ≠ l := hb.ne hps
    have g1 := Bg.new hb hps (.lst (us.map V.str))
    have fps := upd_same (H := H) (a := ps) (o := .lst (us.map V.str))
    generalize upd H ps (.lst (us.map V.str)) = H1 at g1 fps ⊢
    refine ⟨_, rfl, _, _, rfl, .inl ⟨_, SqL.of fps, rfl⟩, _, _, rfl, rfl, _, rfl, ?_⟩
    refine ite2 (fun c3 => ?_) (fun c3 => ?_)
    · have hpl : (0 : Int) < (((us.map V.str).length : Nat) : Int) := of_decide_eq_true c3
      rw [List.length_map] at hpl
      refine ⟨_, rfl, l, 3, rfl, g1.2, by decide, by decide, fun d H2 d0 d1 hb2 => ?_⟩
      have g2 := g1.trans hb2
      have fps2 := hb2.1 _ _ nps fps
      refine ⟨_, _, rfl, rfl, _, rfl, ?_⟩
      refine ite2 (fun c4 => ?_) (fun c4 => ?_)
      · refine ⟨_, rfl, _, rfl, _, rfl, _, _, rfl, .inl ⟨_, SqL.of fps2, rfl⟩, l, _, rfl, g2.2, (by rw [List.length_map]; exact hpl), (by rw [List.length_map]; exact Int.lt_trans (show (us.length : Int) < 100 by omega) (by decide)), fun e H3 e0 e1 hb3 => ?_⟩
        rw [List.length_map] at e1
        obtain ⟨e, rfl⟩ := Int.eq_ofNat_of_zero_le e0
        have he : e < us.length := by omega
        refine ⟨ps, _, _, _, rfl, rfl, SqL.of (hb3.1 _ _ nps fps2), atI_nat (show (us.map V.str)[e]? = some (.str us[e]) by rw [List.getElem?_map, List.getElem?_eq_getElem he]; rfl), (by show 2 ≤ sizeLine; decide), fun p5 hp5 => ?_⟩
        exact q _ _ _ ⟨⟨w1, w8⟩, .inl ⟨us[e], rfl, huw _ (List.getElem_mem he)⟩⟩ (Dat.tup upd_same (.cons (Dat.str _) (.cons (Dat.str _) .nil))) ((g2.trans hb3).trans (Bg.new hb3.2 hp5 _))
      · refine ⟨_, rfl, _, rfl, _, _, rfl, rfl, ⟨by omega, by omega, by decide⟩, l, _, rfl, g2.2, hpos, hbig, fun e H3 e0 e1 hb3 => ?_⟩
        refine ⟨_, rfl, (by show 3 ≤ sizeLine; decide), fun p5 hp5 => ?_⟩
        rw [Int.one_mul] at e1
        exact q _ _ _ ⟨⟨w1, w8⟩, .inr (.inl ⟨e, rfl, e0, e1⟩)⟩ (Dat.tup upd_same (.cons (Dat.str _) (.cons (Dat.int _) (.cons (Dat.int _) .nil)))) ((g2.trans hb3).trans (Bg.new hb3.2 hp5 _))
    · refine iteF ?_
      refine ⟨_, rfl, _, rfl, _, _, rfl, rfl, ⟨by omega, by omega, by decide⟩, l, _, rfl, g1.2, hpos, hbig, fun e H3 e0 e1 hb3 => ?_⟩
      refine ⟨_, rfl, (by show 3 ≤ sizeLine; decide), fun p5 hp5 => ?_⟩
      rw [Int.one_mul] at e1
      exact q _ _ _ ⟨⟨w1, w8⟩, .inr (.inl ⟨e, rfl, e0, e1⟩)⟩ (Dat.tup upd_same (.cons (Dat.str _) (.cons (Dat.int _) (.cons (Dat.int _) .nil)))) ((g1.trans hb3).trans (Bg.new hb3.2 hp5 _))
theorem ok_L_wants (T : Tx w K mg A) (G_L_take : FnOk P w K mg base CX0 1 A.a_L_take A.d_L_take ["_law_bag_here", "_law_many"] sp_L_take) : FnOk P w K mg base CX0 2 A.a_L_wants A.d_L_wants ["_law_bag_here", "_law_word", "_law_width"] sp_L_wants := by
  refine T.F_L_wants.ok sc_L_wants (fun vs H Q E h => ?_) (fun cdv A' outer s H vs Q E hr h => ?_)
  · obtain ⟨l, z, w', rfl, hb, w1, w8, okw, q⟩ := h
    rfl
  obtain ⟨l, z, w', rfl, hb, w1, w8, okw, q⟩ := h
  refine ⟨_, (pss_cons (ps_if (pt_cmpR op_eq (pv 1) pe_str (nomark _)) (pss_one (ps_ret (pe_lst (pa_cons pe_int (pa_cons (pv 2) (pa_cons (pv 2) pa_nil)))))) pss_nil)
    (pss_cons (ps_if (PW.pt (pw_or (pt_cmpR op_eq (pv 1) pe_str (nomark _)) (pw_or1 (pt_cmpR op_eq (pv 1) pe_str (nomark _))))) (pss_one (ps_ret (pe_op op_rep (pe_lst (pa_cons (pe_op op_add pe_int (pe_call G_L_take (hr.mono (by first | decide | omega)) rfl T.M_L_take T.F_L_take.kp T.B_L_take .nil pass0 (pa_cons (pv 0) (pa_cons pe_int pa_nil)))) pa_nil)) pe_int))) pss_nil)
    (pss_cons (ps_if (pt_cmpR op_eq (pv 1) pe_str (nomark _)) (pss_cons (ps_set (i := 3) sc_L_wants.nd rfl (Or.inl rfl) (pe_op op_add pe_int (pe_call G_L_take (hr.mono (by first | decide | omega)) rfl T.M_L_take T.F_L_take.kp T.B_L_take .nil pass0 (pa_cons (pv 0) (pa_cons (pe_op op_sub (pv 2) pe_int) pa_nil)))))
    (pss_one (ps_ret (pe_lst (pa_cons (pv 3) (pa_cons (pe_op op_sub (pv 2) (pv 3)) pa_nil)))))) pss_nil)
    (pss_cons (ps_if (pt_cmpR op_eq (pv 1) pe_str (nomark _)) (pss_one (ps_ret (pe_lst (pa_cons (pe_op op_add (pv 2) (pe_call G_L_take (hr.mono (by first | decide | omega)) rfl T.M_L_take T.F_L_take.kp T.B_L_take .nil pass0 (pa_cons (pv 0) (pa_cons (pe_op op_sub pe_int (pv 2)) pa_nil)))) pa_nil)))) pss_nil)
    (pss_cons (ps_if (pt_cmpR op_eq (pv 1) pe_str (nomark _)) (pss_one (ps_ret (pe_lst (pa_cons (pe_op op_add pe_int (pe_call G_L_take (hr.mono (by first | decide | omega)) rfl T.M_L_take T.F_L_take.kp T.B_L_take .nil pass0 (pa_cons (pv 0) (pa_cons pe_int pa_nil)))) pa_nil)))) pss_nil)
    (pss_cons (ps_if (pt_cmpR op_in_seq (pv 1) (pe_lst (pa_consts rfl)) rfl) (pss_one (ps_ret (pe_lst (pa_cons (pv 2) pa_nil)))) pss_nil)
    (pss_one (ps_ret (pe_lst (pa_cons (pv 2) (pa_cons (pv 2) pa_nil))))))))))), ?_⟩
  have okw1 : z = "under" ∨ z = "same" → w' = 1 := fun h => by
    rcases okw with o | o | o
    · rcases h with rfl | rfl <;> exact absurd o (by decide)
    · exact o.2
    · rcases h with rfl | rfl <;> exact absurd o.1 (by decide)
  refine ⟨_, rfl, rfl, _, rfl, ?_⟩
  refine ite2 (fun c => ?_) (fun c => ?_)
  · have hz : z = "choice" := by have := of_decide_eq_true c; injection this
    refine ⟨_, rfl, _, rfl, (by show 3 ≤ sizeLine; decide), fun p hp => ?_⟩
    exact q p [1, w', w'] _ hp (hb.ne hp) (Bg.new hb hp _) upd_same (by rw [hz]; exact .choice)
  have nz1 : z ≠ "choice" := fun h => by rw [h] at c; exact absurd c (by decide)
  refine ⟨_, rfl, rfl, _, rfl, ?_⟩
  refine ite2 (fun c2 => ?_) (fun c2 => ?_)
  · have hz : z = "under" := by have := of_decide_eq_true c2; injection this
    refine iteT ?_
    refine ⟨_, rfl, l, 8, rfl, hb, by decide, by decide, fun d H1 d0 d1 hb1 => ?_⟩
    refine ⟨_, _, rfl, rfl, (by show 1 ≤ sizeLine; decide), fun p1 hp1 => ?_⟩
    have g1 := hb1.trans (Bg.new hb1.2 hp1 (.lst [.int (1 + d)]))
    have f1 := upd_same (H := H1) (a := p1) (o := .lst [.int (1 + d)])
    refine ⟨p1, _, _, rfl, rfl, f1, by decide, by decide, (by show 2 ≤ sizeLine; decide), fun p hp => ?_⟩
    exact q p [1 + d, 1 + d] _ (bgFree g1 hp).2 (bgFree g1 hp).1 (g1.trans (Bg.new g1.2 hp _)) upd_same (by rw [hz]; exact Wt.under (1 + d) (by omega) (by omega) (okw1 (.inl hz)))
  have nz2 : z ≠ "under" := fun h => by rw [h] at c2; exact absurd c2 (by decide)
  refine ⟨_, rfl, rfl, _, rfl, ?_⟩
  refine ite2 (fun c3 => ?_) (fun c3 => ?_)
  · have hz : z = "same" := by have := of_decide_eq_true c3; injection this
    refine ⟨_, rfl, l, 8, rfl, hb, by decide, by decide, fun d H1 d0 d1 hb1 => ?_⟩
    refine ⟨_, _, rfl, rfl, (by show 1 ≤ sizeLine; decide), fun p1 hp1 => ?_⟩
    have g1 := hb1.trans (Bg.new hb1.2 hp1 (.lst [.int (1 + d)]))
    have f1 := upd_same (H := H1) (a := p1) (o := .lst [.int (1 + d)])
    refine ⟨p1, _, _, rfl, rfl, f1, by decide, by decide, (by show 2 ≤ sizeLine; decide), fun p hp => ?_⟩
    exact q p [1 + d, 1 + d] _ (bgFree g1 hp).2 (bgFree g1 hp).1 (g1.trans (Bg.new g1.2 hp _)) upd_same (by rw [hz]; exact Wt.same (1 + d) (by omega) (by omega) (okw1 (.inr hz)))
  have nz3 : z ≠ "same" := fun h => by rw [h] at c3; exact absurd c3 (by decide)
  refine ⟨_, rfl, rfl, _, rfl, ?_⟩
  refine ite2 (fun c4 => ?_) (fun c4 => ?_)
  · have hz : z = "join" := by have := of_decide_eq_true c4; injection this
    have w2 : 2 ≤ w' := by
      rcases okw with o | o | o
      · rw [hz] at o; exact absurd o (by decide)
      · rcases o.1 with h | h <;> (rw [hz] at h; exact absurd h (by decide))
      · have := o.2; omega
    refine ⟨_, rfl, _, rfl, _, _, rfl, rfl, l, _, rfl, hb, (by show (0 : Int) < w' - 1; omega), (by show (w' - 1 : Int) < bigB; exact Int.lt_trans (show (w' - 1 : Int) < 100 by omega) (by decide)), fun d H1 d0 d1 hb1 => ?_⟩
    have d2 : d < w' - 1 := d1
    refine ⟨_, _, rfl, rfl, ?_⟩
    refine ⟨_, rfl, _, rfl, _, rfl, _, _, rfl, rfl, (by show 2 ≤ sizeLine; decide), fun p hp => ?_⟩
    exact q p [1 + d, w' - (1 + d)] _ (bgFree hb1 hp).2 (bgFree hb1 hp).1 (hb1.trans (Bg.new hb1.2 hp _)) upd_same (by rw [hz]; exact .join (1 + d) (by omega) (by omega))
  have nz4 : z ≠ "join" := fun h => by rw [h] at c4; exact absurd c4 (by decide)
  refine ⟨_, rfl, rfl, _, rfl, ?_⟩
  refine ite2 (fun c5 => ?_) (fun c5 => ?_)
  · have hz : z = "cut" := by have := of_decide_eq_true c5; injection this
    refine ⟨_, rfl, _, rfl, _, rfl, _, _, rfl, rfl, l, _, rfl, hb, (by show (0 : Int) < 9 - w'; omega), (by show (9 - w' : Int) < bigB; exact Int.lt_trans (show (9 - w' : Int) < 100 by omega) (by decide)), fun d H1 d0 d1 hb1 => ?_⟩
    have d2 : d < 9 - w' := d1
    refine ⟨_, _, rfl, rfl, (by show 1 ≤ sizeLine; decide), fun p hp => ?_⟩
    exact q p [w' + d] _ (bgFree hb1 hp).2 (bgFree hb1 hp).1 (hb1.trans (Bg.new hb1.2 hp _)) upd_same (by rw [hz]; exact .cut (w' + d) (by omega) (by omega))
  have nz5 : z ≠ "cut" := fun h => by rw [h] at c5; exact absurd c5 (by decide)
  refine ⟨_, rfl, rfl, _, rfl, ?_⟩
  refine ite2 (fun c6 => ?_) (fun c6 => ?_)
  · have hz : z = "table" := by have := of_decide_eq_true c6; injection this
    refine ⟨_, rfl, l, 4, rfl, hb, by decide, by decide, fun d H1 d0 d1 hb1 => ?_⟩
    refine ⟨_, _, rfl, rfl, (by show 1 ≤ sizeLine; decide), fun p hp => ?_⟩
    exact q p [1 + d] _ (bgFree hb1 hp).2 (bgFree hb1 hp).1 (hb1.trans (Bg.new hb1.2 hp _)) upd_same (by rw [hz]; exact .table (1 + d) (by omega) (by omega))
  have nz6 : z ≠ "table" := fun h => by rw [h] at c6; exact absurd c6 (by decide)
  refine ⟨_, rfl, (by show 3 ≤ sizeLine; decide), fun p1 hp1 => ?_⟩
  have g1 := Bg.new hb hp1 (.lst [.str "not", .str "up", .str "down"])
  refine ⟨p1, _, rfl, .inl (SqL.of upd_same), rfl, rfl, _, rfl, ?_⟩
  generalize upd H p1 (.lst [.str "not", .str "up", .str "down"]) = H1 at g1 ⊢
  refine ite2 (fun c7 => ?_) (fun c7 => ?_)
  · have hz : z = "not" ∨ z = "up" ∨ z = "down" := inStr3 c7
    refine ⟨_, rfl, (by show 1 ≤ sizeLine; decide), fun p hp => ?_⟩
    exact q p [w'] _ (bgFree g1 hp).2 (bgFree g1 hp).1 (g1.trans (Bg.new g1.2 hp _)) upd_same (by rcases hz with rfl | rfl | rfl; exact .not; exact .up; exact .down)
  · refine ⟨_, rfl, _, rfl, (by show 2 ≤ sizeLine; decide), fun p hp => ?_⟩
    have hno : z ≠ "not" ∧ z ≠ "up" ∧ z ≠ "down" := notStr3 (Bool.eq_false_iff.mpr c7)
    refine q p [w', w'] _ (bgFree g1 hp).2 (bgFree g1 hp).1 (g1.trans (Bg.new g1.2 hp _)) upd_same ?_
    rcases okw with o | o | o
    · simp only [List.mem_cons, List.not_mem_nil, or_false] at o
      rcases o with h | h | h | h | h | h | h | h | h | h | h
      · exact absurd h hno.1
      · rw [h]; exact .and
      · rw [h]; exact .or
      · rw [h]; exact .odd
      · rw [h]; exact .sum
      · rw [h]; exact .less
      · exact absurd h hno.2.1
      · exact absurd h hno.2.2
      · exact absurd h nz5
      · exact absurd h nz6
      · exact absurd h nz1
    · rcases o.1 with h | h
      · exact absurd h nz2
      · exact absurd h nz3
    · exact absurd o.1 nz4
theorem ok_L_typed (T : Tx w K mg A) (G_L_take : FnOk P w K mg base CX0 1 A.a_L_take A.d_L_take ["_law_bag_here", "_law_many"] sp_L_take) (G_L_leaf : FnOk P w K mg base CX0 2 A.a_L_leaf A.d_L_leaf ["_law_bag_here", "_law_widths", "_law_width"] sp_L_leaf) (G_L_wants : FnOk P w K mg base CX0 2 A.a_L_wants A.d_L_wants ["_law_bag_here", "_law_word", "_law_width"] sp_L_wants) (G_L_rooms : FnOk P w K mg base CX0 2 A.a_L_rooms A.d_L_rooms ["_law_bag_here", "_law_room", "_law_many"] sp_L_rooms) (n : Nat) (G_L_typed : FnOk P w K mg base CX0 (n + 2) A.a_L_typed A.d_L_typed ["_law_bag_here", "_law_widths", "_law_width", "_law_deep", "_law_room"] (sp_typed n)) : FnOk P w K mg base CX0 (n + 3) A.a_L_typed A.d_L_typed ["_law_bag_here", "_law_widths", "_law_width", "_law_deep", "_law_room"] (sp_typed (n + 1)) := by
  refine T.F_L_typed.ok sc_L_typed (fun vs H Q E h => ?_) (fun cdv A' outer s H vs Q E hr h => ?_)
  · obtain ⟨l, wd, o, kvs, kv, w0, room, rfl, n1, hb, hwd, kw, gd, w1, w8, hroom, q⟩ := h
    rfl
  obtain ⟨l, wd, o, kvs, kv, w0, room, rfl, n1, hb, hwd, kw, gd, w1, w8, hroom, q⟩ := h
  have hu := hu_of hr
  conv in (defBody _) => whnf
  simp only [bigL_eq, bigT_eq]
  refine ⟨_, (pss_cons (ps_set (i := 5) sc_L_typed.nd rfl (Or.inl rfl) (pe_bigL rfl) (by unfold bigL; rfl))
    (pss_cons (ps_set (i := 5) sc_L_typed.nd rfl (Or.inl rfl) (pe_op op_cat (pv 5) (pe_ix ix_list (pe_lst (pa_cons (pe_lst (pa_cons pe_str pa_nil)) (pa_cons (pe_lst (pa_cons pe_str (pa_cons pe_str pa_nil))) pa_nil))) (pe_callTy call_int1 rfl T.int PyProof.Rows.boot_int (pa_cons (pe_cmpR op_eq (pv 2) pe_int (nomark _)) pa_nil)) (fun _ _ => rfl))))
    (pss_cons (ps_set (i := 6) sc_L_typed.nd rfl (Or.inl rfl) (pe_ix ix_list (pv 5) (pe_call G_L_take (hr.mono (by first | decide | omega)) rfl T.M_L_take T.F_L_take.kp T.B_L_take .nil pass0 (pa_cons (pv 0) (pa_cons (pe_callB call_len rfl T.len PySem.boot_len (pa_cons (pv 5) pa_nil)) pa_nil))) (fun _ _ => rfl)))
    (pss_cons (ps_set (i := 7) sc_L_typed.nd rfl (Or.inl rfl) (pe_dget2 hu (pe_disp (pps_cons pe_str pe_int (pps_cons pe_str pe_int (pps_cons pe_str pe_int (pps_cons pe_str pe_int (pps_cons pe_str pe_int (pps_cons pe_str pe_int pps_nil)))))) rfl rfl (by simp) (by decide)) (pv 6) pe_int ⟨rfl, rfl, rfl, rfl⟩))
    (pss_cons (ps_if (PW.pt (pw_or (pt_cmpR op_eq (pv 6) pe_str (nomark _)) (pw_or (pt_cmpR op_eq (pv 3) pe_int (nomark _)) (pw_or1 (pt_cmpR op_le (pv 4) (pv 7) (nomark _)))))) (pss_one (ps_ret (pe_call G_L_leaf (hr.mono (by first | decide | omega)) rfl T.M_L_leaf T.F_L_leaf.kp T.B_L_leaf .nil pass0 (pa_cons (pv 0) (pa_cons (pv 1) (pa_cons (pv 2) pa_nil)))))) pss_nil)
    (pss_cons (ps_set (i := 8) sc_L_typed.nd rfl (Or.inl rfl) (pe_call G_L_wants (hr.mono (by first | decide | omega)) rfl T.M_L_wants T.F_L_wants.kp T.B_L_wants .nil pass0 (pa_cons (pv 0) (pa_cons (pv 6) (pa_cons (pv 2) pa_nil)))))
    (pss_cons (ps_set (i := 9) sc_L_typed.nd rfl (Or.inl rfl) (pe_tup pa_nil))
    (pss_cons (ps_for PassesOwn.never rfl (pi_zip rfl T.zip (pa_cons (pv 8) (pa_cons (pe_call G_L_rooms (hr.mono (by first | decide | omega)) rfl T.M_L_rooms T.F_L_rooms.kp T.B_L_rooms .nil pass0 (pa_cons (pv 0) (pa_cons (pe_op op_sub (pv 4) pe_int) (pa_cons (pv 7) pa_nil)))) pa_nil))) (pg_tup rfl (pgs_cons (pg_name (i := 10) sc_L_typed.nd rfl (Or.inl rfl)) (pgs_cons (pg_name (i := 11) sc_L_typed.nd rfl (Or.inl rfl)) pgs_nil)))
        (pss_one (ps_set (i := 9) sc_L_typed.nd rfl (Or.inl rfl) (pe_op op_catE (pv 9) (pe_tup (pa_cons (pe_call G_L_typed (hr.mono (by first | decide | omega)) rfl T.M_L_typed T.F_L_typed.kp T.B_L_typed .nil pass0 (pa_cons (pv 0) (pa_cons (pv 1) (pa_cons (pv 10) (pa_cons (pe_op op_sub (pv 3) pe_int) (pa_cons (pv 11) pa_nil)))))) pa_nil))))))
    (pss_cons (ps_if (pt_cmpR op_eq (pv 6) pe_str (nomark _)) (pss_one (ps_ret (pe_op op_catE (pe_tup (pa_cons pe_str (pa_cons (pe_call G_L_take (hr.mono (by first | decide | omega)) rfl T.M_L_take T.F_L_take.kp T.B_L_take .nil pass0 (pa_cons (pv 0) (pa_cons (pe_op op_add (pe_op op_sub (pe_ix ix_list (pv 8) pe_int (fun _ _ => rfl)) (pv 2)) pe_int) pa_nil))) (pa_cons (pv 2) pa_nil)))) (pv 9)))) pss_nil)
    (pss_cons (ps_if (pt_cmpR op_eq (pv 6) pe_str (nomark _)) (pss_one (ps_ret (pe_op op_catE (pe_tup (pa_cons pe_str (pa_cons (pv 2) (pa_cons (pe_callTy call_tuple_of rfl T.tuple PyProof.Rows.boot_tuple (pa_cons (pe_comp [0, 2] (fun _ _ h => h) rfl (pi_range1 rfl T.range (pa_cons (pe_op op_shl pe_int (pe_ix ix_list (pv 8) pe_int (fun _ _ => rfl))) pa_nil)) (fun _ _ _ _ => pts_nil) (fun _ _ _ _ => (pe_call G_L_take (hr.mono (by first | decide | omega)) rfl T.M_L_take T.F_L_take.kp T.B_L_take .nil pass0 (pa_cons (pv 1) (pa_cons (pe_op op_shl pe_int (pv 2)) pa_nil)))) rfl (show ∀ j ∈ ([0, 2] : List Nat), j < 12 by decide) (show (["_law_k", "_law_bag_here", "_law_width"] : List Str).Nodup by decide +kernel)) pa_nil)) pa_nil)))) (pv 9)))) pss_nil)
    (pss_cons (ps_if (PW.pt (pw_or (pt_cmpR op_eq (pv 6) pe_str (nomark _)) (pw_or1 (pt_cmpR op_eq (pv 6) pe_str (nomark _))))) (pss_one (ps_ret (pe_op op_catE (pe_tup (pa_cons (pv 6) (pa_cons (pe_call G_L_take (hr.mono (by first | decide | omega)) rfl T.M_L_take T.F_L_take.kp T.B_L_take .nil pass0 (pa_cons (pv 0) (pa_cons pe_int pa_nil))) pa_nil))) (pv 9)))) pss_nil)
    (pss_one (ps_ret (pe_op op_catE (pe_tup (pa_cons (pv 6) pa_nil)) (pv 9))))))))))))))), ?_⟩
  have nwd : wd ≠ l := fun e => by obtain ⟨b0, b1, e2, _⟩ := hb; rw [e, e2] at hwd; cases hwd
  refine ⟨(by show 13 ≤ sizeLine; decide), fun pw hpw => ?_⟩
  have nw : pw ≠ l := hb.ne hpw
  show tSeq _ _ _ _ (upd H pw (.lst (word13.map V.str)))
  have b1 := Bg.new hb hpw (.lst (word13.map V.str))
  have hw1 : (upd H pw (.lst (word13.map V.str))) pw = some (.lst (word13.map V.str)) := upd_same
  generalize upd H pw (.lst (word13.map V.str)) = H1 at b1 hw1 ⊢
  refine ⟨_, rfl, (by show 1 ≤ sizeLine; decide), fun p2 hp2 => ?_⟩
  have t2 := same_new hp2 (.lst [.str "join"])
  have f2 := upd_same (H := H1) (a := p2) (o := .lst [.str "join"])
  generalize upd H1 p2 (.lst [.str "join"]) = H2 at t2 f2 ⊢
  refine ⟨(by show 2 ≤ sizeLine; decide), fun p3 hp3 => ?_⟩
  have t3 := same_new hp3 (.lst [.str "under", .str "same"])
  have f3 := upd_same (H := H2) (a := p3) (o := .lst [.str "under", .str "same"])
  generalize upd H2 p3 (.lst [.str "under", .str "same"]) = H3 at t3 f3 ⊢
  refine ⟨(by show 2 ≤ sizeLine; decide), fun p4 hp4 => ?_⟩
  have t4 := same_new hp4 (.lst [.ref p2, .ref p3])
  have f4 := upd_same (H := H3) (a := p4) (o := .lst [.ref p2, .ref p3])
  generalize upd H3 p4 (.lst [.ref p2, .ref p3]) = H4 at t4 f4 ⊢
  obtain ⟨px, hat, fx⟩ : ∃ px, atI [V.ref p2, V.ref p3] (if decide (V.int w0 = V.int 1) = true then 1 else 0) = some (.ref px) ∧ H4 px = some (.lst ((if w0 = 1 then (["under", "same"] : List Str) else ["join"]).map V.str)) := by
    by_cases h : w0 = 1
    · rw [if_pos (decide_eq_true (by rw [h])), if_pos h]
      exact ⟨p3, rfl, t4 _ _ f3⟩
    · rw [if_neg (by intro e; have := of_decide_eq_true e; injection this with this; exact h this), if_neg h]
      exact ⟨p2, rfl, t4 _ _ (t3 _ _ f2)⟩
  have t14 := (t2.trans t3).trans t4
  have b4 := b1.trans (b1.2.same t14)
  have hlenW : (wordsW w0).length = 15 ∨ (wordsW w0).length = 14 := by
    unfold wordsW
    rw [List.length_append]
    by_cases h : w0 = 1
    · rw [if_pos h]; exact .inl rfl
    · rw [if_neg h]; exact .inr rfl
  refine ⟨_, rfl, rfl, .inr ⟨_, rfl, p4, _, _, _, rfl, rfl, SqL.of f4, hat, pw, px, _, _, rfl, rfl, t14 _ _ hw1, fx, ?_, fun p5 hp5 => ?_⟩⟩
  · rw [← List.length_append, ← List.map_append, List.length_map]
    exact small (by have : (wordsW w0).length ≤ 100000 := by omega
                    exact this)
  rw [← List.map_append]
  show tSeq _ _ _ _ (upd H4 p5 (.lst ((wordsW w0).map V.str)))
  have n5 : p5 ≠ l := b4.2.ne hp5
  have b5 := b4.trans (Bg.new b4.2 hp5 (.lst ((wordsW w0).map V.str)))
  have f5 := upd_same (H := H4) (a := p5) (o := .lst ((wordsW w0).map V.str))
  generalize upd H4 p5 (.lst ((wordsW w0).map V.str)) = H5 at b5 f5 ⊢
  refine ⟨_, rfl, _, rfl, _, rfl, _, _, rfl, .inl ⟨_, SqL.of f5, rfl⟩, l, _, rfl, b5.2, (by rw [List.length_map]; omega), (by rw [List.length_map]; exact Int.lt_trans (show (((wordsW w0).length : Nat) : Int) < 100 by omega) (by decide)), fun d H6 d0 d1 hb6 => ?_⟩
  have b6 := b5.trans hb6
  have f6 := hb6.1 _ _ n5 f5
  obtain ⟨k, rfl⟩ := Int.eq_ofNat_of_zero_le d0
  rw [List.length_map] at d1
  have hk : k < (wordsW w0).length := by omega
  refine ⟨p5, _, _, _, rfl, rfl, SqL.of f6, (show atI ((wordsW w0).map V.str) ((k : Nat) : Int) = some (.str (wordsW w0)[k]) from atI_nat (by rw [List.getElem?_map, List.getElem?_eq_getElem hk]; rfl)), ?_⟩
  have wz := fun h0 => wordsW_in (List.getElem_mem hk) h0
  generalize (wordsW w0)[k] = z at wz ⊢
  clear f6 f5 f4 f3 f2 fx hat hw1
  refine fun pm hpm => ⟨upd_same, manyKV, rfl, by decide, ?_⟩
  rw [upd_upd]
  have b7 := b6.trans (Bg.new b6.2 hpm (.dK (mergeK [] manyKV)))
  have f7 := upd_same (H := H6) (a := pm) (o := .dK (mergeK [] manyKV))
  generalize upd H6 pm (.dK (mergeK [] manyKV)) = H7 at b7 f7 ⊢
  refine ⟨pm, rfl, .inl ⟨_, .inl f7⟩, _, rfl, _, DGet.k (k := .inr z) f7, ?_⟩
  rw [show mergeK [] manyKV = manyKV from rfl, many_val z]
  refine ⟨_, rfl, rfl, _, rfl, ?_⟩
  by_cases hz0 : z = ""
  · refine ite_t (decide_eq_true (by rw [hz0])) (iteT ?_)
    exact ⟨_, rfl, _, rfl, _, rfl, l, wd, o, kvs, kv, w0, rfl, b7.2, b7.1 _ _ nwd hwd, kw, gd, w1, w8, fun d v H' tp hD g => q d v H' (tp.up (by omega)) hD (b7.trans g)⟩
  refine ite_f (decide_eq_false fun h => hz0 (by injection h)) ⟨_, rfl, rfl, _, rfl, ?_⟩
  by_cases hA : n = 0
  · refine ite_t (decide_eq_true (by rw [hA]; rfl)) (iteT ?_)
    exact ⟨_, rfl, _, rfl, _, rfl, l, wd, o, kvs, kv, w0, rfl, b7.2, b7.1 _ _ nwd hwd, kw, gd, w1, w8, fun d v H' tp hD g => q d v H' (tp.up (by omega)) hD (b7.trans g)⟩
  refine ite_f (decide_eq_false fun h => by injection h with h; omega) ⟨_, rfl, _, rfl, _, _, rfl, rfl, _, rfl, ?_⟩
  by_cases hC : room ≤ ((wantN z : Nat) : Int)
  · refine ite_t (decide_eq_true hC) ?_
    exact ⟨_, rfl, _, rfl, _, rfl, l, wd, o, kvs, kv, w0, rfl, b7.2, b7.1 _ _ nwd hwd, kw, gd, w1, w8, fun d v H' tp hD g => q d v H' (tp.up (by omega)) hD (b7.trans g)⟩
  refine ite_f (decide_eq_false hC) ?_
  refine ⟨_, rfl, _, rfl, _, rfl, l, z, w0, rfl, b7.2, w1, w8, wz hz0, fun pa ws H8 hpa npa g8 fpa wt => ?_⟩
  have b8 := b7.trans g8
  obtain ⟨hws, hlen⟩ := wt.bound ⟨w1, w8⟩
  have hw3' : 1 ≤ ws.length ∧ ws.length ≤ 3 := by cases wt <;> exact ⟨by simp, by simp⟩
  refine ⟨(by show 0 ≤ sizeLine; decide), fun p0 hp0 => ?_⟩
  have n0 : p0 ≠ l := b8.2.ne hp0
  have b9 := b8.trans (Bg.new b8.2 hp0 (.tup []))
  have fpa9 := (same_new hp0 (.tup [])) _ _ fpa
  have f09 := upd_same (H := H8) (a := p0) (o := .tup [])
  generalize upd H8 p0 (.tup []) = H9 at b9 fpa9 f09 ⊢
  refine ⟨_, rfl, _, rfl, _, rfl, _, _, rfl, rfl, _, rfl, l, room - 1, ((wantN z : Nat) : Int), rfl, b9.2, by omega, by omega, by omega, by omega, fun pr rs H10 hpr npr g10 fpr hrl hrb => ?_⟩
  have b10 := b9.trans g10
  have fpa10 := g10.1 _ _ npa fpa9
  have f010 := g10.1 _ _ n0 f09
  refine ⟨pa, pr, rfl, ⟨_, SqL.of fpa10⟩, ⟨_, SqL.of fpr⟩, for_zip (xs := ws.map V.int) (ys := rs.map V.int) (fun i σ H' => ∃ (x10 x11 : Option V) (ss : List PyData) (pp : Addr) (ps : List V), σ = [some (.ref l), some (.ref wd), some (.int w0), some (.int ((n + 1 : Nat) : Int)), some (.int room), some (.ref p5), some (.str z), some (.int ((wantN z : Nat) : Int)), some (.ref pa), some (.ref pp), x10, x11] ∧ Bg l H H' ∧ H' pa = some (.lst (ws.map V.int)) ∧ H' pr = some (.lst (rs.map V.int)) ∧ H' pp = some (.tup ps) ∧ Dats H' ss ps ∧ ss.length = i ∧ ∀ (j : Nat) (s : PyData), ss[j]? = some s → ∃ a : Int, ws[j]? = some a ∧ Tp kv n s a) ⟨_, _, [], p0, [], rfl, b10, fpa10, fpr, f010, Dats.nil, rfl, fun _ _ h => nomatch h⟩ ?_ ?_ ?_ ?_⟩
  · rintro i σ H' ⟨_, _, _, _, _, _, _, h1, h2, _⟩
    exact ⟨SqL.of h1, SqL.of h2⟩
  · rw [List.length_map, List.length_map]; omega
  · rintro i x y pt σ H' hx hy ⟨x10, x11, ss, pp, ps, rfl, g, h1, h2, h3, h4, h5, h6⟩ hpt
    rw [List.getElem?_map] at hx hy
    obtain ⟨a, ha, rfl⟩ := Option.map_eq_some_iff.mp hx
    obtain ⟨m, hm, rfl⟩ := Option.map_eq_some_iff.mp hy
    have ha8 := hws a (List.mem_of_getElem? ha)
    have hm8 := hrb m (List.mem_of_getElem? hm)
    have hi3 : i < ws.length := (List.getElem?_eq_some_iff.mp ha).1
    refine ⟨pt, _, rfl, SqT.of upd_same, rfl, _, _, rfl, _, _, rfl, rfl, ?_⟩
    have tt := same_new hpt (.tup [.int a, .int m])
    have gt := g.trans (g.2.same tt)
    generalize upd H' pt (.tup [.int a, .int m]) = Ha at tt gt ⊢
    refine ⟨_, rfl, _, rfl, _, rfl, _, rfl, _, rfl, _, _, rfl, rfl, _, rfl, l, wd, o, kvs, kv, a, m, ?_, by omega, gt.2, gt.1 _ _ nwd hwd, kw, gd, ha8.1, ha8.2, hm8, fun d v Hb tp hD gb => ?_⟩
    · show [V.ref l, V.ref wd, V.int a, V.int (((n + 1 : Nat) : Int) - 1), V.int m] = [V.ref l, V.ref wd, V.int a, V.int n, V.int m]
      rw [show (((n + 1 : Nat) : Int) - 1) = (n : Int) by omega]
    have kt := (KeepT.same tt).trans (Bg.keepT gt.2 gb)
    have g2 := gt.trans gb
    have h1b := gb.1 _ _ npa (tt _ _ h1)
    have h2b := gb.1 _ _ npr (tt _ _ h2)
    have h3b := kt _ _ h3
    have h4b := h4.keepT kt (noLs_all fun s hs => by
      obtain ⟨j, hj, ej⟩ := List.getElem_of_mem hs
      obtain ⟨a', _, ht⟩ := h6 j s (by rw [List.getElem?_eq_getElem hj, ej])
      exact ht.noL)
    refine ⟨(by show 1 ≤ sizeLine; decide), fun p1 hp1 => ?_⟩
    have tc := same_new hp1 (.tup [v])
    have fc := upd_same (H := Hb) (a := p1) (o := .tup [v])
    generalize upd Hb p1 (.tup [v]) = Hc at tc fc ⊢
    have hpl := h4b.length
    refine ⟨pp, p1, _, _, rfl, rfl, tc _ _ h3b, fc, small (by simp only [List.length_singleton]; omega), fun p' Hd td fd => ?_⟩
    have te := tc.trans td
    refine ⟨_, _, ss ++ [d], p', _, rfl, g2.trans (g2.2.same te), te _ _ h1b, te _ _ h2b, fd, (h4b.same te).append (.cons (hD.same te) .nil), by rw [List.length_append, h5]; rfl, fun j s hs => ?_⟩
    by_cases hj : j < ss.length
    · rw [List.getElem?_append_left hj] at hs
      exact h6 j s hs
    · rw [List.getElem?_append_right (by omega)] at hs
      have hj2 : j = i := by have := (List.getElem?_eq_some_iff.mp hs).1; rw [List.length_singleton] at this; omega
      rw [hj2, h5, Nat.sub_self] at hs
      cases hs
      rw [hj2]
      exact ⟨a, ha, tp⟩
  · rintro σ H' ⟨x10, x11, ss, pp, ps, rfl, g, h1, h2, h3, h4, h5, h6⟩
    rw [List.length_map] at h5
    have nos : noLs ss = true := noLs_all fun s hs => by
      obtain ⟨j, hj, ej⟩ := List.getElem_of_mem hs
      obtain ⟨a', _, ht⟩ := h6 j s (by rw [List.getElem?_eq_getElem hj, ej])
      exact ht.noL
    have hpl := h4.length
    have fin : ∀ (hd : List PyData) (hv : List V) (p8 : Addr) (H9 : Hp), KeepT H' H9 → Bg l H H9 → H9 p8 = some (.tup (.str z :: hv)) → Dats H9 hd hv → Et z hd ws w0 → hv.length ≤ 2 → rCatE (.ref p8) (.ref pp) H9 Q := fun hd hv p8 H9 kt g9 e8 hdv et hv2 =>
      ⟨p8, pp, _, _, rfl, rfl, e8, kt _ _ h3, small (by rw [List.length_cons]; omega), fun p' H10 sm hp' => q (.tuple (.str z :: (hd ++ ss))) _ _ ⟨⟨w1, w8⟩, .inr (.inr ⟨z, hd, ss, ws, rfl, et, h5, hws, h6⟩)⟩ (Dat.tup hp' (.cons (Dat.str _) ((hdv.same sm).append ((h4.keepT kt nos).same sm)))) (g9.trans (g9.2.same sm))⟩
    refine ⟨_, rfl, rfl, _, rfl, ?_⟩
    by_cases zc : z = "cut"
    · refine ite_t (by rw [zc]; decide) ?_
      obtain ⟨a0, hws0, a1, a8⟩ : ∃ a0, ws = [a0] ∧ w0 ≤ a0 ∧ a0 ≤ 8 := by
        rw [zc] at wt
        cases wt with
        | cut a c1 c8 => exact ⟨a, rfl, c1, c8⟩
      subst hws0
      refine ⟨_, rfl, _, rfl, pa, _, _, _, rfl, rfl, SqL.of h1, rfl, _, rfl, _, _, rfl, rfl, _, _, rfl, rfl, l, _, rfl, g.2, (by show (0 : Int) < a0 - w0 + 1; omega), (by show (a0 - w0 + 1 : Int) < bigB; exact Int.lt_trans (show (a0 - w0 + 1 : Int) < 100 by omega) (by decide)), fun f H9 f0 f1 hb9 => ?_⟩
      have f1' : f < a0 - w0 + 1 := f1
      have g9 := g.trans hb9
      have k9 := Bg.keepT g.2 hb9
      refine ⟨_, rfl, (by show 3 ≤ sizeLine; decide), fun p8 hp8 => ?_⟩
      rw [← zc]
      exact ⟨_, rfl, fin [.int f, .int w0] [.int f, .int w0] p8 _ (k9.trans (KeepT.same (same_new hp8 _))) (g9.trans (Bg.new g9.2 hp8 _)) upd_same (.cons (Dat.int _) (.cons (Dat.int _) .nil)) (by rw [zc]; exact Et.cut f w0 a0 f0 (by omega) (by omega)) (by simp)⟩
    refine ite_f (decide_eq_false fun h => zc (by injection h)) ?_
    refine ⟨_, rfl, rfl, _, rfl, ?_⟩
    by_cases zt : z = "table"
    · refine ite_t (by rw [zt]; decide) ?_
      obtain ⟨a0, hws0, a1, a4⟩ : ∃ a0, ws = [a0] ∧ 1 ≤ a0 ∧ a0 ≤ 4 := by
        rw [zt] at wt
        cases wt with
        | table a c1 c8 => exact ⟨a, rfl, c1, c8⟩
      subst hws0
      have hpow := pow_pos2 w0.toNat
      have hpow2 := pow_le2 (n := w0.toNat) (by omega)
      have hpa1 := pow_pos2 a0.toNat
      have hpa2 := pow_le2 (n := a0.toNat) (by omega)
      have hpa3 : (2 : Int) ^ a0.toNat ≤ 16 := by
        have h : (2 : Nat) ^ a0.toNat ≤ 2 ^ 4 := Nat.pow_le_pow_right (by decide) (by omega)
        rw [cast_pow]
        omega
      refine ⟨_, rfl, _, rfl, pa, _, _, _, rfl, rfl, SqL.of h1, rfl, _, _, rfl, rfl, ⟨by omega, by omega, by decide⟩, _, rfl, by omega, by omega, comp_range (lo := 0) (fun i ys H'' => Bg l H' H'' ∧ ∃ ns : List Int, ys = ns.map V.int ∧ ns.length = i ∧ ∀ m ∈ ns, Rng w0.toNat m) ⟨Bg.refl g.2, [], rfl, rfl, (fun _ h => nomatch h)⟩ ?_ ?_ ?_⟩
      · rintro i ys H'' hi ⟨_, ns, rfl, hl, _⟩
        rw [List.length_map]
        exact smallL (by omega)
      · rintro i ys H'' hi ⟨gg, ns, rfl, hl, hns⟩
        unfold tYes
        refine iteT ⟨_, rfl, _, rfl, _, _, rfl, rfl, ⟨by omega, by omega, by decide⟩, l, _, rfl, gg.2, (by rw [Int.one_mul]; exact hpow), (by rw [Int.one_mul]; exact Int.lt_of_le_of_lt hpow2 (by decide)), fun d9 H13 e0 e1 hb13 => ?_⟩
        rw [Int.one_mul] at e1
        refine ⟨gg.trans hb13, ns ++ [d9], by rw [List.map_append]; rfl, by rw [List.length_append, hl]; rfl, fun m hm => ?_⟩
        rcases List.mem_append.mp hm with h | h
        · exact hns m h
        · rw [List.mem_singleton.mp h]; exact ⟨e0, e1⟩
      · rintro ys H'' ⟨gg, ns, rfl, hl, hns⟩ pl hpl
        have g13 := (g.trans gg).trans (Bg.new gg.2 hpl (.lst (ns.map V.int)))
        have k13 := (Bg.keepT g.2 gg).trans (KeepT.same (same_new hpl (.lst (ns.map V.int))))
        have f13 := upd_same (H := H'') (a := pl) (o := .lst (ns.map V.int))
        generalize upd H'' pl (.lst (ns.map V.int)) = H13 at g13 k13 f13 ⊢
        refine ⟨pl, _, rfl, .inl ⟨SqL.of f13, fun pt hpt => ?_⟩⟩
        have g14 := g13.trans (Bg.new g13.2 hpt (.tup (ns.map V.int)))
        have k14 := k13.trans (KeepT.same (same_new hpt (.tup (ns.map V.int))))
        have f14 := upd_same (H := H13) (a := pt) (o := .tup (ns.map V.int))
        generalize upd H13 pt (.tup (ns.map V.int)) = H14 at g14 k14 f14 ⊢
        refine ⟨(by show 3 ≤ sizeLine; decide), fun p8 hp8 => ?_⟩
        rw [← zt]
        exact ⟨_, rfl, fin [.int w0, .tuple (ns.map PyData.int)] [.int w0, .ref pt] p8 _ (k14.trans (KeepT.same (same_new hp8 _))) (g14.trans (Bg.new g14.2 hp8 _)) upd_same (.cons (Dat.int _) (.cons (Dat.tup ((same_new hp8 _) _ _ f14) (Dats.ints _)) .nil)) (by rw [zt]; exact Et.table w0 a0 ns a4 (by rw [hl]; omega) hns) (by simp)⟩
    refine ite_f (decide_eq_false fun h => zt (by injection h)) ?_
    have shifts : (z = "up" ∨ z = "down") → ∀ (e9 : Int) (H9 : Hp), 0 ≤ e9 → e9 < 9 → Bg l H' H9 → ∀ p8, H9 p8 = none → rCatE (.ref p8) (.ref pp) (upd H9 p8 (.tup [.str z, .int e9])) Q := fun hz e9 H9 e0 e1 hb9 p8 hp8 => by
      refine fin [.int e9] [.int e9] p8 _ ((Bg.keepT g.2 hb9).trans (KeepT.same (same_new hp8 _))) ((g.trans hb9).trans (Bg.new hb9.2 hp8 _)) upd_same (.cons (Dat.int _) .nil) ?_ (by simp)
      rcases hz with e | e
      · rw [e] at wt ⊢
        cases wt
        exact Et.up e9 w0 e0 (by omega)
      · rw [e] at wt ⊢
        cases wt
        exact Et.down e9 w0 e0 (by omega)
    refine ⟨_, rfl, rfl, _, rfl, ?_⟩
    by_cases zu : z = "up"
    · refine ite_t (by rw [zu]; decide) (iteT ?_)
      refine ⟨_, rfl, _, rfl, l, 9, rfl, g.2, by decide, by decide, fun e9 H9 e0 e1 hb9 => ⟨(by show 2 ≤ sizeLine; decide), fun p8 hp8 => ?_⟩⟩
      exact ⟨_, rfl, shifts (.inl zu) e9 H9 e0 e1 hb9 p8 hp8⟩
    refine ite_f (decide_eq_false fun h => zu (by injection h)) ⟨_, rfl, rfl, _, rfl, ?_⟩
    by_cases zd : z = "down"
    · refine ite_t (by rw [zd]; decide) ?_
      refine ⟨_, rfl, _, rfl, l, 9, rfl, g.2, by decide, by decide, fun e9 H9 e0 e1 hb9 => ⟨(by show 2 ≤ sizeLine; decide), fun p8 hp8 => ?_⟩⟩
      exact ⟨_, rfl, shifts (.inr zd) e9 H9 e0 e1 hb9 p8 hp8⟩
    refine ite_f (decide_eq_false fun h => zd (by injection h)) ?_
    refine ⟨_, rfl, (by show 1 ≤ sizeLine; decide), fun p8 hp8 => ?_⟩
    exact ⟨_, rfl, fin [] [] p8 _ (KeepT.same (same_new hp8 _)) (g.trans (Bg.new g.2 hp8 _)) upd_same .nil (wt.et ⟨w1, w8⟩ zc zt zu zd) (by simp)⟩
theorem ok_L_row (T : Tx w K mg A) : FnOk P w K mg base CX0 1 A.a_L_row A.d_L_row ["_law_number", "_law_width"] sp_L_row := by
  refine T.F_L_row.ok sc_L_row (fun vs H Q E h => ?_) (fun cdv A' outer s H vs Q E hr h => ?_)
  · obtain ⟨x, w', rfl, x0, w0, w8, q⟩ := h
    rfl
  obtain ⟨x, w', rfl, x0, w0, w8, q⟩ := h
  refine ⟨_, (pss_one (ps_ret (pe_comp [0] (fun _ _ h => h) rfl (pi_range1 rfl T.range (pa_cons (pv 1) pa_nil)) (fun _ _ _ _ => pts_nil) (fun _ _ _ _ => (pe_op op_and (pe_op op_shr (pv 1) (pv 0)) pe_int)) rfl (show ∀ j ∈ ([0] : List Nat), j < 2 by decide) (show (["_law_k", "_law_number"] : List Str).Nodup by decide +kernel)))), ?_⟩
  obtain ⟨X, rfl⟩ := Int.eq_ofNat_of_zero_le x0
  refine ⟨_, rfl, _, rfl, by omega, by omega, comp_range_map (lo := 0) (fun i => .int ((bt X i : Nat) : Int)) (by omega) (fun i hi N hN => ?_) fun p hp => ?_⟩
  · refine ⟨_, rfl, _, rfl, _, _, rfl, rfl, (by show (0 : Int) ≤ 0 + (i : Int); omega), _, _, rfl, rfl, ?_⟩
    dsimp only
    rw [bit_val]
    exact hN
  · have e : (List.range w'.toNat).map (fun i => V.int ((bt X i : Nat) : Int)) = bits w' (X : Int) := by
      unfold bits btn
      rw [List.map_map]
      rfl
    rw [e]
    exact q p hp
theorem ok_L_summed (T : Tx w K mg A) : FnOk P w K mg base CX0 1 A.a_L_summed A.d_L_summed ["_law_one", "_law_other", "_law_carry"] sp_L_summed := by
  refine T.F_L_summed.ok sc_L_summed (fun vs H Q E h => ?_) (fun cdv A' outer s H vs Q E hr h => ?_)
  · obtain ⟨po, pt, n, x, y, c, rfl, hpo, hpt, hn, q⟩ := h
    rfl
  obtain ⟨po, pt, n, x, y, c, rfl, hpo, hpt, hn, q⟩ := h
  refine ⟨_, (pss_cons (ps_set (i := 3) sc_L_summed.nd rfl (Or.inl rfl) (pe_lst pa_nil))
    (pss_cons (ps_for PassesOwn.never rfl (pi_range1 rfl T.range (pa_cons (pe_callB call_len rfl T.len PySem.boot_len (pa_cons (pv 0) pa_nil)) pa_nil)) (pg_name (i := 4) sc_L_summed.nd rfl (Or.inl rfl))
        (pss_cons (ps_set (i := 5) sc_L_summed.nd rfl (Or.inl rfl) (pe_op op_add (pe_op op_add (pe_ix ix_list (pv 0) (pv 4) (fun _ _ => rfl)) (pe_ix ix_list (pv 1) (pv 4) (fun _ _ => rfl))) (pv 2)))
    (pss_cons (ps_expr (pe_bm PySem.F.plainAttrs_list PySem.F.slot_list_append PySem.F.type_list_append mt_append (pv 3) (pa_cons (pe_op op_mod (pv 5) pe_int) pa_nil)))
    (pss_one (ps_set (i := 2) sc_L_summed.nd rfl (Or.inl rfl) (pe_op op_fdivL (pv 5) pe_int))))))
    (pss_one (ps_ret (pv 3))))), ?_⟩
  refine ⟨(by show 0 ≤ sizeLine; decide), fun p hp => ?_⟩
  have hlen : (bits (n : Int) (x : Int)).length = n := by rw [bits_len]; rfl
  have s1 := same_new hp (.lst [])
  refine ⟨_, rfl, _, _, rfl, .inl ⟨_, SqL.of (s1 _ _ hpo), rfl⟩, _, rfl, by omega, by omega, for_range (lo := 0) (fun i σ H' => ∃ (x4 x5 : Option V), σ = [some (.ref po), some (.ref pt), some (.int ((cy x y c i : Nat) : Int)), some (.ref p), x4, x5] ∧ Same H H' ∧ H' p = some (.lst ((bits (n : Int) ((x + y + c : Nat) : Int)).take i))) ⟨none, none, by rw [cy_zero]; rfl, s1, upd_same⟩ ?_ ?_⟩
  · rintro i σ H' hi ⟨x4, x5, rfl, s', fp⟩
    rw [hlen] at hi
    have hi' : i < n := by omega
    have fo := s' _ _ hpo
    have ft := s' _ _ hpt
    refine ⟨_, rfl, _, rfl, po, _, _, _, rfl, rfl, SqL.of fo, at0 (bits_at (by omega)), _, rfl, _, rfl, pt, _, _, _, rfl, rfl, SqL.of ft, at0 (bits_at (by omega)), _, _, rfl, rfl, _, rfl, _, _, rfl, rfl, ?_⟩
    refine ⟨_, rfl, .inl ⟨rfl, _, SqL.of fp⟩, _, rfl, _, _, rfl, rfl, (by show (0 : Int) < 2; decide), p, _, _, rfl, rfl, fp, (by rw [List.length_take]; exact smallL (by omega)), ?_⟩
    refine ⟨_, rfl, _, _, rfl, rfl, ⟨by decide, by decide⟩, ?_⟩
    refine ⟨some (.int (0 + (i : Int))), some (.int (((bt x i : Nat) : Int) + ((bt y i : Nat) : Int) + ((cy x y c i : Nat) : Int))), ?_, s'.upd hp _, ?_⟩
    · rw [cy_step]
      simp only [Int.toNat_natCast]
      rw [show (((bt x i + bt y i + cy x y c i) / 2 : Nat) : Int) = ((bt x i : Nat) + (bt y i : Nat) + (cy x y c i : Nat) : Int) / 2 by omega]
      rfl
    · rw [upd_same, take_get (bits_at (show i < ((n : Int)).toNat by omega))]
      simp only [Int.toNat_natCast]
      rw [bt_sum, show (((bt x i + bt y i + cy x y c i) % 2 : Nat) : Int) = ((bt x i : Nat) + (bt y i : Nat) + (cy x y c i : Nat) : Int) % 2 by omega]
  · rintro σ H' ⟨x4, x5, rfl, s', fp⟩
    rw [hlen, Int.toNat_natCast, List.take_of_length_le (by rw [bits_len]; exact Nat.le_refl _)] at fp
    exact ⟨_, rfl, q p H' hp s' fp⟩
theorem ok_L_of_two (T : Tx w K mg A) (G_L_summed : FnOk P w K mg base CX0 1 A.a_L_summed A.d_L_summed ["_law_one", "_law_other", "_law_carry"] sp_L_summed) : FnOk P w K mg base CX0 2 A.a_L_of_two A.d_L_of_two ["_law_word", "_law_one", "_law_other"] sp_L_of_two := by
  refine T.F_L_of_two.ok sc_L_of_two (fun vs H Q E h => ?_) (fun cdv A' outer s H vs Q E hr h => ?_)
  · obtain ⟨z, po, pt, a, b, x, y, w', v, rfl, hpo, hpt, ev, hx, hy, ha, hb, q⟩ := h
    rfl
  obtain ⟨z, po, pt, a, b, x, y, w', v, rfl, hpo, hpt, ev, hx, hy, ha, hb, q⟩ := h
  have hu64 := hr.units
  have hu := hu_of hr
  refine ⟨_, (pss_cons (ps_if (pt_cmpR op_eq (pv 0) pe_str (nomark _)) (pss_one (ps_ret (pe_comp [1, 2] (fun _ _ h => h) rfl (pi_range1 rfl T.range (pa_cons (pe_callB call_len rfl T.len PySem.boot_len (pa_cons (pv 1) pa_nil)) pa_nil)) (fun _ _ _ _ => pts_nil) (fun _ _ _ _ => (pe_op op_mul (pe_ix (ix_listK (K := K) rfl) (pv 1) (pv 0) (fun _ _ => rfl)) (pe_ix (ix_listK (K := K) rfl) (pv 2) (pv 0) (fun _ _ => rfl)))) rfl (show ∀ j ∈ ([1, 2] : List Nat), j < 3 by decide) (show (["_law_k", "_law_one", "_law_other"] : List Str).Nodup by decide +kernel)))) pss_nil)
    (pss_cons (ps_if (pt_cmpR op_eq (pv 0) pe_str (nomark _)) (pss_one (ps_ret (pe_comp [1, 2] (fun _ _ h => h) rfl (pi_range1 rfl T.range (pa_cons (pe_callB call_len rfl T.len PySem.boot_len (pa_cons (pv 1) pa_nil)) pa_nil)) (fun _ _ _ _ => pts_nil) (fun _ _ _ _ => (pe_callB (call_max2 rfl) rfl T.max PyProof.Rows.boot_max (pa_cons (pe_ix (ix_listK (K := K) rfl) (pv 1) (pv 0) (fun _ _ => rfl)) (pa_cons (pe_ix (ix_listK (K := K) rfl) (pv 2) (pv 0) (fun _ _ => rfl)) pa_nil)))) rfl (show ∀ j ∈ ([1, 2] : List Nat), j < 3 by decide) (show (["_law_k", "_law_one", "_law_other"] : List Str).Nodup by decide +kernel)))) pss_nil)
    (pss_cons (ps_if (pt_cmpR op_eq (pv 0) pe_str (nomark _)) (pss_one (ps_ret (pe_comp [1, 2] (fun _ _ h => h) rfl (pi_range1 rfl T.range (pa_cons (pe_callB call_len rfl T.len PySem.boot_len (pa_cons (pv 1) pa_nil)) pa_nil)) (fun _ _ _ _ => pts_nil) (fun _ _ _ _ => (pe_callTy call_int1 rfl T.int PyProof.Rows.boot_int (pa_cons (pe_cmpR op_ne (pe_ix (ix_listK (K := K) rfl) (pv 1) (pv 0) (fun _ _ => rfl)) (pe_ix (ix_listK (K := K) rfl) (pv 2) (pv 0) (fun _ _ => rfl)) (nomark _)) pa_nil))) rfl (show ∀ j ∈ ([1, 2] : List Nat), j < 3 by decide) (show (["_law_k", "_law_one", "_law_other"] : List Str).Nodup by decide +kernel)))) pss_nil)
    (pss_cons (ps_if (pt_cmpR op_eq (pv 0) pe_str (nomark _)) (pss_one (ps_ret (pe_call G_L_summed (hr.mono (by first | decide | omega)) rfl T.M_L_summed T.F_L_summed.kp T.B_L_summed .nil pass0 (pa_cons (pv 1) (pa_cons (pv 2) (pa_cons pe_int pa_nil)))))) pss_nil)
    (pss_cons (ps_if (pt_cmpR op_eq (pv 0) pe_str (nomark _)) (pss_one (ps_ret (pe_call G_L_summed (hr.mono (by first | decide | omega)) rfl T.M_L_summed T.F_L_summed.kp T.B_L_summed .nil pass0 (pa_cons (pv 1) (pa_cons (pe_comp [] (fun _ _ h => h) rfl (pi_list (pv 2)) (fun _ _ _ _ => pts_nil) (fun _ _ _ _ => (pe_op op_sub pe_int (pv 0))) rfl (show ∀ j ∈ ([] : List Nat), j < 3 by decide) (show (["_law_bit"] : List Str).Nodup by decide +kernel)) (pa_cons pe_int pa_nil)))))) pss_nil)
    (pss_cons (ps_if (pt_cmpR op_eq (pv 0) pe_str (nomark _)) (pss_one (ps_ret (pe_op op_cat (pv 1) (pv 2)))) pss_nil)
    (pss_cons (ps_if (pt_cmpR op_eq (pv 0) pe_str (nomark _)) (pss_one (ps_ret (pe_lst (pa_cons (pe_callTy call_int1 rfl T.int PyProof.Rows.boot_int (pa_cons (pe_cmpR (op_eqD hu64) (pv 1) (pv 2) (nomark _)) pa_nil)) pa_nil)))) pss_nil)
    (pss_one (ps_ret (pe_lst (pa_cons (pe_callTy call_int1 rfl T.int PyProof.Rows.boot_int (pa_cons (pe_cmpR (op_ltL hu) (pe_rev (pv 1) (pe_un un_neg pe_int)) (pe_rev (pv 2) (pe_un un_neg pe_int)) (nomark _)) pa_nil)) pa_nil))))))))))), ?_⟩
  refine ⟨_, rfl, rfl, _, rfl, ?_⟩
  obtain ⟨X, rfl, hX⟩ := hx.nat
  obtain ⟨Y, rfl, hY⟩ := hy.nat
  generalize hh : ([] : List PyData) = hd at ev
  generalize h1 : [a, b] = ws at ev
  generalize h2 : [(X : Int), (Y : Int)] = us at ev
  cases ev with
  | not => cases h1
  | choice => cases h1
  | up => cases h1
  | down => cases h1
  | cut => cases h1
  | table => cases h1
  | and =>
    cases h1; cases h2
    refine ite_t (by decide) ⟨_, rfl, _, _, rfl, .inl ⟨_, SqL.of hpo, rfl⟩, _, rfl, by rw [bits_len]; omega, by rw [bits_len]; omega, comp_range_map (lo := 0) (fun i => .int ((bt (X &&& Y) i : Nat) : Int)) (by rw [bits_len]; omega) (fun i hi N hN => ?_) fun p hp => ?_⟩
    · rw [bits_len] at hi
      refine ⟨_, rfl, _, rfl, po, _, _, _, rfl, rfl, SqL.of hpo, at0 (bits_at (by omega)), _, rfl, _, rfl, pt, _, _, _, rfl, rfl, SqL.of hpt, at0 (bits_at (by omega)), _, _, rfl, rfl, .inr ⟨Int.lt_of_lt_of_le (by decide) (Int.natCast_nonneg _), Int.lt_of_lt_of_le (Int.ofNat_lt.mpr (bt_lt _ _)) (by decide)⟩, ?_⟩
      (rw [bt_and] at hN; exact hN)
    · rw [bits_len]
      refine q p _ hp (same_new hp _) ?_
      rw [upd_same]
      congr 2
      refine bits_ext (by rw [List.length_map, List.length_range]; omega) fun i hi => ?_
      rw [List.getElem?_map, List.getElem?_range (by omega)]
      (rw [and_nat]; rfl)
  | or =>
    cases h1; cases h2
    refine ite_f (by decide) ⟨_, rfl, rfl, _, rfl, ?_⟩
    refine ite_t (by decide) ⟨_, rfl, _, _, rfl, .inl ⟨_, SqL.of hpo, rfl⟩, _, rfl, by rw [bits_len]; omega, by rw [bits_len]; omega, comp_range_map (lo := 0) (fun i => .int ((bt (X ||| Y) i : Nat) : Int)) (by rw [bits_len]; omega) (fun i hi N hN => ?_) fun p hp => ?_⟩
    · rw [bits_len] at hi
      refine ⟨_, rfl, _, rfl, po, _, _, _, rfl, rfl, SqL.of hpo, at0 (bits_at (by omega)), _, rfl, _, rfl, pt, _, _, _, rfl, rfl, SqL.of hpt, at0 (bits_at (by omega)), _, _, rfl, ?_⟩
      (rw [bt_or] at hN; simp only [Int.toNat_natCast]; rw [max_bt]; exact hN)
    · rw [bits_len]
      refine q p _ hp (same_new hp _) ?_
      rw [upd_same]
      congr 2
      refine bits_ext (by rw [List.length_map, List.length_range]; omega) fun i hi => ?_
      rw [List.getElem?_map, List.getElem?_range (by omega)]
      (rw [or_nat]; rfl)
  | odd =>
    cases h1; cases h2
    refine ite_f (by decide) ⟨_, rfl, rfl, _, rfl, ?_⟩
    refine ite_f (by decide) ⟨_, rfl, rfl, _, rfl, ?_⟩
    refine ite_t (by decide) ⟨_, rfl, _, _, rfl, .inl ⟨_, SqL.of hpo, rfl⟩, _, rfl, by rw [bits_len]; omega, by rw [bits_len]; omega, comp_range_map (lo := 0) (fun i => .int ((bt (X ^^^ Y) i : Nat) : Int)) (by rw [bits_len]; omega) (fun i hi N hN => ?_) fun p hp => ?_⟩
    · rw [bits_len] at hi
      refine ⟨_, rfl, _, rfl, po, _, _, _, rfl, rfl, SqL.of hpo, at0 (bits_at (by omega)), _, rfl, _, rfl, pt, _, _, _, rfl, rfl, SqL.of hpt, at0 (bits_at (by omega)), rfl, .inr ⟨_, rfl, ?_⟩⟩
      (rw [bt_xor] at hN; simp only [Int.toNat_natCast]; rw [ne_bt]; exact hN)
    · rw [bits_len]
      refine q p _ hp (same_new hp _) ?_
      rw [upd_same]
      congr 2
      refine bits_ext (by rw [List.length_map, List.length_range]; omega) fun i hi => ?_
      rw [List.getElem?_map, List.getElem?_range (by omega)]
      (rw [xor_nat]; rfl)
  | sum =>
    cases h1; cases h2
    refine ite_f (by decide) ⟨_, rfl, rfl, _, rfl, ?_⟩
    refine ite_f (by decide) ⟨_, rfl, rfl, _, rfl, ?_⟩
    refine ite_f (by decide) ⟨_, rfl, rfl, _, rfl, ?_⟩
    obtain ⟨n, rfl⟩ := Int.eq_ofNat_of_zero_le (show 0 ≤ a by omega)
    refine ite_t (by decide) ⟨_, rfl, _, rfl, po, pt, n, X, Y, 0, rfl, hpo, hpt, by omega, fun p H' hp s' fp => q p H' hp s' ?_⟩
    rw [fp]
    congr 2
    exact bits_same (by rw [Int.toNat_natCast, Nat.add_zero, Int.natCast_add, cast_pow])
  | less =>
    cases h1; cases h2
    refine ite_f (by decide) ⟨_, rfl, rfl, _, rfl, ?_⟩
    refine ite_f (by decide) ⟨_, rfl, rfl, _, rfl, ?_⟩
    refine ite_f (by decide) ⟨_, rfl, rfl, _, rfl, ?_⟩
    refine ite_f (by decide) ⟨_, rfl, rfl, _, rfl, ?_⟩
    obtain ⟨n, rfl⟩ := Int.eq_ofNat_of_zero_le (show 0 ≤ a by omega)
    have hY' : Y < 2 ^ n := hY
    refine ite_t (by decide) ⟨_, rfl, _, rfl, pt, rfl, ⟨_, SqL.of hpt⟩, comp_list_map neg1 (SqL.of hpt) (by rw [bits_len]; omega) (fun u hu N hN => ?_) fun p1 hp1 => ?_⟩
    · obtain ⟨i, rfl⟩ := bits_int hu
      exact ⟨_, rfl, _, _, rfl, rfl, hN⟩
    · rw [neg_bits hY']
      have t1 := same_new hp1 (.lst (bits (n : Int) ((2 ^ n - (Y + 1) : Nat) : Int)))
      refine ⟨po, p1, n, X, 2 ^ n - (Y + 1), 1, rfl, t1 _ _ hpo, upd_same, by omega, fun p H' hp s' fp => q p H' (t1.free hp) (t1.trans s') ?_⟩
      rw [fp]
      congr 2
      refine bits_same ?_
      rw [Int.toNat_natCast, cast_pow, show ((X + (2 ^ n - (Y + 1)) + 1 : Nat) : Int) = (X : Int) - (Y : Int) + ((2 ^ n : Nat) : Int) by omega, Int.add_emod_right]
  | join a b _ _ hab =>
    cases h1; cases h2
    refine ite_f (by decide) ⟨_, rfl, rfl, _, rfl, ?_⟩
    refine ite_f (by decide) ⟨_, rfl, rfl, _, rfl, ?_⟩
    refine ite_f (by decide) ⟨_, rfl, rfl, _, rfl, ?_⟩
    refine ite_f (by decide) ⟨_, rfl, rfl, _, rfl, ?_⟩
    refine ite_f (by decide) ⟨_, rfl, rfl, _, rfl, ?_⟩
    obtain ⟨n, rfl⟩ := Int.eq_ofNat_of_zero_le (show 0 ≤ a by omega)
    obtain ⟨m, rfl⟩ := Int.eq_ofNat_of_zero_le (show 0 ≤ b by omega)
    have hX' : X < 2 ^ n := hX
    refine ite_t (by decide) ⟨_, rfl, _, rfl, po, pt, _, _, rfl, rfl, hpo, hpt, small (by rw [bits_len, bits_len]; omega), fun p hp => q p _ hp (same_new hp _) ?_⟩
    rw [upd_same]
    congr 2
    unfold bits
    rw [← List.map_append, Int.toNat_natCast, Int.toNat_natCast, Int.toNat_natCast, Int.toNat_natCast, row_join hX', show ((n : Int) + (m : Int)).toNat = n + m by omega, cast_pow, ← Int.natCast_mul, ← Int.natCast_add, Int.toNat_natCast]
  | same =>
    cases h1; cases h2
    refine ite_f (by decide) ⟨_, rfl, rfl, _, rfl, ?_⟩
    refine ite_f (by decide) ⟨_, rfl, rfl, _, rfl, ?_⟩
    refine ite_f (by decide) ⟨_, rfl, rfl, _, rfl, ?_⟩
    refine ite_f (by decide) ⟨_, rfl, rfl, _, rfl, ?_⟩
    refine ite_f (by decide) ⟨_, rfl, rfl, _, rfl, ?_⟩
    refine ite_f (by decide) ⟨_, rfl, rfl, _, rfl, ?_⟩
    obtain ⟨n, rfl⟩ := Int.eq_ofNat_of_zero_le (show 0 ≤ a by omega)
    refine ite_t (by decide) ⟨_, rfl, _, rfl, .list ((btn n X).map PyData.int), .list ((btn n Y).map PyData.int), RdD.lst (SqL.of hpo) (RdDs.ints _), RdD.lst (SqL.of hpt) (RdDs.ints _), (Cmp.list (Cmp.ints _)).mono (show 1 ≤ 64 by decide), (Cmp.list (Cmp.ints _)).mono (show 1 ≤ 64 by decide), .inr ⟨_, rfl, (by show 1 ≤ sizeLine; decide), fun p hp => q p _ hp (same_new hp _) ?_⟩⟩
    rw [upd_same]
    congr 2
    rw [Bool.false_xor, PyData.eqv, eqvAll_ints]
    have hinj := row_inj (w := n) hX hY
    by_cases h : X = Y
    · rw [decide_eq_true (hinj.mpr h), if_pos (show (X : Int) = Y by rw [h])]
      rfl
    · rw [decide_eq_false (fun e => h (hinj.mp e)), if_neg (show ¬ (X : Int) = Y by omega)]
      rfl
  | under =>
    cases h1; cases h2
    refine ite_f (by decide) ⟨_, rfl, rfl, _, rfl, ?_⟩
    refine ite_f (by decide) ⟨_, rfl, rfl, _, rfl, ?_⟩
    refine ite_f (by decide) ⟨_, rfl, rfl, _, rfl, ?_⟩
    refine ite_f (by decide) ⟨_, rfl, rfl, _, rfl, ?_⟩
    refine ite_f (by decide) ⟨_, rfl, rfl, _, rfl, ?_⟩
    refine ite_f (by decide) ⟨_, rfl, rfl, _, rfl, ?_⟩
    obtain ⟨n, rfl⟩ := Int.eq_ofNat_of_zero_le (show 0 ≤ a by omega)
    refine ite_f (by decide) ⟨_, rfl, _, rfl, rfl, po, _, rfl, SqL.of hpo, fun p1 hp1 => ?_⟩
    have t1 := same_new hp1 (.lst (bits (n : Int) (X : Int)).reverse)
    have f1 := upd_same (H := H) (a := p1) (o := .lst (bits (n : Int) (X : Int)).reverse)
    generalize upd H p1 (.lst (bits (n : Int) (X : Int)).reverse) = H1 at t1 f1 ⊢
    refine ⟨_, rfl, _, rfl, rfl, pt, _, rfl, SqL.of (t1 _ _ hpt), fun p2 hp2 => ?_⟩
    have t2 := same_new hp2 (.lst (bits (n : Int) (Y : Int)).reverse)
    have f2 := upd_same (H := H1) (a := p2) (o := .lst (bits (n : Int) (Y : Int)).reverse)
    generalize upd H1 p2 (.lst (bits (n : Int) (Y : Int)).reverse) = H2 at t2 f2 ⊢
    have r1 : ∀ Z : Nat, (bits (n : Int) (Z : Int)).reverse = ((btn n Z).reverse).map V.int := fun Z => by unfold bits; rw [List.map_reverse]; rfl
    refine ⟨p1, p2, (btn n X).reverse, (btn n Y).reverse, rfl, rfl, by rw [← r1]; exact SqL.of (t2 _ _ f1), by rw [← r1]; exact SqL.of f2, by rw [List.length_reverse, List.length_reverse, btn_len, btn_len], .inr ⟨_, rfl, (by show 1 ≤ sizeLine; decide), fun p hp => q p _ ((t1.trans t2).free hp) ((t1.trans t2).trans (same_new hp _)) ?_⟩⟩
    rw [upd_same]
    congr 2
    have hX' : X < 2 ^ n := hX
    have hY' : Y < 2 ^ n := hY
    rw [lex_row, Nat.mod_eq_of_lt hX', Nat.mod_eq_of_lt hY']
    by_cases h : X < Y
    · rw [decide_eq_true h, if_pos (show (X : Int) < Y by omega)]
      rfl
    · rw [decide_eq_false h, if_neg (show ¬ (X : Int) < Y by omega)]
      rfl
theorem ok_L_worth (T : Tx w K mg A) (G_L_row : FnOk P w K mg base CX0 1 A.a_L_row A.d_L_row ["_law_number", "_law_width"] sp_L_row) (G_L_of_two : FnOk P w K mg base CX0 2 A.a_L_of_two A.d_L_of_two ["_law_word", "_law_one", "_law_other"] sp_L_of_two) (n : Nat) (G_L_worth : FnOk P w K mg base CX0 (n + 2) A.a_L_worth A.d_L_worth ["_law_saying", "_law_widths", "_law_numbers"] (sp_lw n)) : FnOk P w K mg base CX0 (n + 3) A.a_L_worth A.d_L_worth ["_law_saying", "_law_widths", "_law_numbers"] (sp_lw (n + 1)) := by
  refine T.F_L_worth.ok sc_L_worth (fun vs H Q E h => ?_) (fun cdv A' outer s H vs Q E hr h => ?_)
  · obtain ⟨d, v, wd, nd, wk, nk, w, x, rfl, hD, hwd, hnd, hM, q⟩ := h
    rfl
  obtain ⟨d, v, wd, nd, wk, nk, w, x, rfl, hD, hwd, hnd, hM, q⟩ := h
  have hu := hu_of hr
  refine ⟨_, (pss_cons (ps_set (i := 3) sc_L_worth.nd rfl (Or.inl rfl) (pe_ix ix_tup (pv 0) pe_int (fun _ _ => rfl)))
    (pss_cons (ps_if (pt_cmpR op_eq (pv 3) pe_str (nomark _)) (pss_one (ps_ret (pe_call G_L_row (hr.mono (by first | decide | omega)) rfl T.M_L_row T.F_L_row.kp T.B_L_row .nil pass0 (pa_cons (pe_dget hu (pv 2) (pe_ix ix_tup (pv 0) pe_int (fun _ _ => rfl)) (fun _ _ => rfl)) (pa_cons (pe_dget hu (pv 1) (pe_ix ix_tup (pv 0) pe_int (fun _ _ => rfl)) (fun _ _ => rfl)) pa_nil))))) pss_nil)
    (pss_cons (ps_if (pt_cmpR op_eq (pv 3) pe_str (nomark _)) (pss_one (ps_ret (pe_call G_L_row (hr.mono (by first | decide | omega)) rfl T.M_L_row T.F_L_row.kp T.B_L_row .nil pass0 (pa_cons (pe_ix ix_tup (pv 0) pe_int (fun _ _ => rfl)) (pa_cons (pe_ix ix_tup (pv 0) pe_int (fun _ _ => rfl)) pa_nil))))) pss_nil)
    (pss_cons (ps_comp [] sc_L_worth.nd (i := 4) rfl (Or.inl rfl) (fun _ _ h => h) rfl (pi_tup (pv 0)) (fun _ _ _ _ => (pts_one (PW.pt (pw_and (pt_truthK (K := K) rfl (pe_callB (call_isinstK (K := K) rfl (T := "tuple")) rfl T.isinstance PyProof.Rows.boot_isinstance (pa_cons (pv 0) (pa_cons (pe_bltn (v := .ty "tuple") rfl T.tuple PyProof.Rows.boot_tuple rfl) pa_nil))) (fun _ => rfl)) (pw_and1 (pt_truthK (K := K) rfl (pe_callB (call_isinstK (K := K) rfl (T := "str")) rfl T.isinstance PyProof.Rows.boot_isinstance (pa_cons (pe_ix (ix_tupK (K := K) rfl) (pv 0) pe_int (fun _ _ => rfl)) (pa_cons (pe_bltn (v := .ty "str") rfl T.str PyProof.Rows.boot_str rfl) pa_nil))) (fun _ => rfl))))))) (fun _ _ _ _ => (pv 0)) rfl (show ∀ j ∈ ([] : List Nat), j < 7 by decide) (show (["_law_part"] : List Str).Nodup by decide +kernel) (by with_unfolding_all rfl))
    (pss_cons (ps_comp [1, 2] sc_L_worth.nd (i := 5) rfl (Or.inl rfl) (fun _ _ h => h) rfl (pi_list (pv 4)) (fun _ _ _ _ => pts_nil) (fun _ _ _ _ => (pe_call G_L_worth (hr.mono (by first | decide | omega)) rfl T.M_L_worth T.F_L_worth.kp T.B_L_worth .nil pass0 (pa_cons (pv 0) (pa_cons (pv 1) (pa_cons (pv 2) pa_nil))))) rfl (show ∀ j ∈ ([1, 2] : List Nat), j < 7 by decide) (show (["_law_part", "_law_widths", "_law_numbers"] : List Str).Nodup by decide +kernel) (by with_unfolding_all rfl))
    (pss_cons (ps_set (i := 6) sc_L_worth.nd rfl (Or.inr rfl) (pe_ix ix_list (pv 5) pe_int (fun _ _ => rfl)))
    (pss_cons (ps_if (pt_cmpR op_eq (pv 3) pe_str (nomark _)) (pss_one (ps_ret (pe_comp [] (fun _ _ h => h) rfl (pi_list (pv 6)) (fun _ _ _ _ => pts_nil) (fun _ _ _ _ => (pe_op op_sub pe_int (pv 0))) rfl (show ∀ j ∈ ([] : List Nat), j < 7 by decide) (show (["_law_bit"] : List Str).Nodup by decide +kernel)))) pss_nil)
    (pss_cons (ps_if (pt_cmpR op_eq (pv 3) pe_str (nomark _)) (pss_one (ps_ret (pe_slice sl_list (pe_op op_cat (pe_op op_rep (pe_lst (pa_cons pe_int pa_nil)) (pe_ix ix_tup (pv 0) pe_int (fun _ _ => rfl))) (pv 6)) po_none (po_some (pe_callB call_len rfl T.len PySem.boot_len (pa_cons (pv 6) pa_nil)))))) pss_nil)
    (pss_cons (ps_if (pt_cmpR op_eq (pv 3) pe_str (nomark _)) (pss_one (ps_ret (pe_slice sl_list (pe_op op_cat (pv 6) (pe_op op_rep (pe_lst (pa_cons pe_int pa_nil)) (pe_ix ix_tup (pv 0) pe_int (fun _ _ => rfl)))) (po_some (pe_ix ix_tup (pv 0) pe_int (fun _ _ => rfl))) (po_some (pe_op op_add (pe_ix ix_tup (pv 0) pe_int (fun _ _ => rfl)) (pe_callB call_len rfl T.len PySem.boot_len (pa_cons (pv 6) pa_nil))))))) pss_nil)
    (pss_cons (ps_if (pt_cmpR op_eq (pv 3) pe_str (nomark _)) (pss_one (ps_ret (pe_slice sl_list (pv 6) (po_some (pe_ix ix_tup (pv 0) pe_int (fun _ _ => rfl))) (po_some (pe_op op_add (pe_ix ix_tup (pv 0) pe_int (fun _ _ => rfl)) (pe_ix ix_tup (pv 0) pe_int (fun _ _ => rfl))))))) pss_nil)
    (pss_cons (ps_if (pt_cmpR op_eq (pv 3) pe_str (nomark _)) (pss_one (ps_ret (pe_call G_L_row (hr.mono (by first | decide | omega)) rfl T.M_L_row T.F_L_row.kp T.B_L_row .nil pass0 (pa_cons (pe_ix ix_tup (pe_ix ix_tup (pv 0) pe_int (fun _ _ => rfl)) (pe_callB call_sum rfl T.sum PyProof.Rows.boot_sum (pa_cons (pe_comp [6] (fun _ _ h => h) rfl (pi_range1 rfl T.range (pa_cons (pe_callB call_len rfl T.len PySem.boot_len (pa_cons (pv 6) pa_nil)) pa_nil)) (fun _ _ _ _ => pts_nil) (fun _ _ _ _ => (pe_op op_shl (pe_ix (ix_listK (K := K) rfl) (pv 1) (pv 0) (fun _ _ => rfl)) (pv 0))) rfl (show ∀ j ∈ ([6] : List Nat), j < 7 by decide) (show (["_law_k", "_law_row_here"] : List Str).Nodup by decide +kernel)) pa_nil)) (fun _ _ => rfl)) (pa_cons (pe_ix ix_tup (pv 0) pe_int (fun _ _ => rfl)) pa_nil))))) pss_nil)
    (pss_cons (ps_if (pt_cmpR op_eq (pv 3) pe_str (nomark _)) (pss_one (ps_ret (pe_ix ix_list (pe_lst (pa_cons (pe_ix ix_list (pv 5) pe_int (fun _ _ => rfl)) (pa_cons (pe_ix ix_list (pv 5) pe_int (fun _ _ => rfl)) pa_nil))) (pe_ix ix_list (pv 6) pe_int (fun _ _ => rfl)) (fun _ _ => rfl)))) pss_nil)
    (pss_one (ps_ret (pe_call G_L_of_two (hr.mono (by first | decide | omega)) rfl T.M_L_of_two T.F_L_of_two.kp T.B_L_of_two .nil pass0 (pa_cons (pv 3) (pa_cons (pv 6) (pa_cons (pe_ix ix_list (pv 5) pe_int (fun _ _ => rfl)) pa_nil)))))))))))))))))), ?_⟩
  obtain ⟨hw8, hrx, hM⟩ := hM
  rcases hM with ⟨y, rfl, e1, e2⟩ | rfl | ⟨z, hd, subs, ws, us, rfl, ev, hsl, hwb, hms⟩
  · obtain ⟨p, xs, rfl, hp, hxs⟩ := hD.tupI
    obtain ⟨x0, r0, rfl, h0, hr0⟩ := hxs.consI
    obtain ⟨x1, r1, rfl, h1, hr1⟩ := hr0.consI
    have f0 : x0 = .str "wire" := by unfold Dat at h0; exact h0
    have f1 : x1 = .str y := by unfold Dat at h1; exact h1
    subst f0 f1
    refine ⟨_, rfl, p, _, _, _, rfl, rfl, SqT.of hp, (show atI _ ((0 : Nat) : Int) = _ from atI_nat rfl), ?_⟩
    refine ⟨_, rfl, rfl, _, rfl, ?_⟩
    refine ite_t (by decide) ?_
    refine ⟨_, rfl, _, rfl, p, _, _, _, rfl, rfl, SqT.of hp, (show atI _ ((1 : Nat) : Int) = _ from atI_nat rfl), nd, _, rfl, dgetR hnd e2, _, rfl, _, rfl, p, _, _, _, rfl, rfl, SqT.of hp, (show atI _ ((1 : Nat) : Int) = _ from atI_nat rfl), wd, _, rfl, dgetR hwd e1, x, w, rfl, hrx.1, by omega, by omega, fun t ht => ?_⟩
    exact q t _ ht (same_new ht _) upd_same
  · obtain ⟨p, xs, rfl, hp, hxs⟩ := hD.tupI
    obtain ⟨x0, r0, rfl, h0, hr0⟩ := hxs.consI
    obtain ⟨x1, r1, rfl, h1, hr1⟩ := hr0.consI
    obtain ⟨x2, r2, rfl, h2, hr2⟩ := hr1.consI
    have f0 : x0 = .str "number" := by unfold Dat at h0; exact h0
    have f1 := h1.intI
    have f2 := h2.intI
    subst f0 f1 f2
    refine ⟨_, rfl, p, _, _, _, rfl, rfl, SqT.of hp, (show atI _ ((0 : Nat) : Int) = _ from atI_nat rfl), ?_⟩
    refine ⟨_, rfl, rfl, _, rfl, ?_⟩
    refine ite_f (by decide) ⟨_, rfl, rfl, _, rfl, ?_⟩
    refine ite_t (by decide) ?_
    refine ⟨_, rfl, p, _, _, _, rfl, rfl, SqT.of hp, (show atI _ ((1 : Nat) : Int) = _ from atI_nat rfl), _, rfl, p, _, _, _, rfl, rfl, SqT.of hp, (show atI _ ((2 : Nat) : Int) = _ from atI_nat rfl), x, w, rfl, hrx.1, by omega, by omega, fun t ht => ?_⟩
    exact q t _ ht (same_new ht _) upd_same
  · obtain ⟨z1, z2, z3⟩ := ev.word
    obtain ⟨k1, k2, k3, k4⟩ := ev.form
    have hD0 := hD
    obtain ⟨p, xs, rfl, hp, hxs⟩ := hD.tupI
    have hxs0 := hxs
    obtain ⟨x0, r0, rfl, h0, hr0⟩ := hxs.consI
    have e0 : x0 = .str z := by unfold Dat at h0; exact h0
    subst e0
    refine ⟨_, rfl, p, _, _, _, rfl, rfl, SqT.of hp, (show atI _ ((0 : Nat) : Int) = _ from atI_nat rfl), ?_⟩
    refine ⟨_, rfl, rfl, _, rfl, ?_⟩
    refine ite_f (decide_eq_false fun h => z2 (by injection h)) ⟨_, rfl, rfl, _, rfl, ?_⟩
    refine ite_f (decide_eq_false fun h => z3 (by injection h)) ?_
    have hxl := hxs0.length
    rw [List.length_cons, List.length_append] at hxl
    refine ⟨_, rfl, p, rfl, ⟨_, SqT.of hp⟩, comp_tup (xs := .str z :: r0) (fun i ys H' => H = H' ∧ ys = ((V.str z :: r0).take i).drop (1 + hd.length)) ⟨rfl, by simp⟩ ?_ ?_ ?_ ?_⟩
    · rintro i ys H' _ ⟨rfl, _⟩
      exact SqT.of hp
    · rintro i ys H' hi ⟨rfl, rfl⟩
      rw [List.length_drop, List.length_take]
      exact smallL (by omega)
    · rintro i y ys H' hx ⟨rfl, rfl⟩
      obtain ⟨hi, hxe⟩ := List.getElem?_eq_some_iff.mp hx
      obtain ⟨d, hd1, hdx⟩ := hxs0.get hx
      have hskip : i < 1 + hd.length → ((V.str z :: r0).take i).drop (1 + hd.length) = ((V.str z :: r0).take (i + 1)).drop (1 + hd.length) := fun h => by
        rw [List.drop_eq_nil_of_le (by rw [List.length_take]; omega), List.drop_eq_nil_of_le (by rw [List.length_take]; omega)]
      obtain ⟨t, ty, _, _, _, kT, _⟩ := hdx.ty (K := K)
      refine ⟨_, rfl, y, t, _, rfl, ty, kT, _, rfl, ?_⟩
      by_cases him : i < 1 + hd.length
      · have hcase : dTup d = false ∨ ∃ ns : List Int, ∃ n0 : Int, d = .tuple ((n0 :: ns).map PyData.int) := by
          cases i with
          | zero => cases hd1; exact .inl rfl
          | succ i =>
            have hd2 : (hd ++ subs)[i]? = some d := hd1
            rw [List.getElem?_append_left (by omega)] at hd2
            exact ev_hd ev (List.mem_of_getElem? hd2)
        rcases hcase with hT | ⟨ns, n0, rfl⟩
        · rw [hT]
          refine ite_f rfl (ite_f rfl ⟨rfl, hskip him⟩)
        · obtain ⟨pp, qs, rfl, hpp, hqs⟩ := hdx.tupI
          have eqs : qs = (n0 :: ns).map V.int := dats_ints hqs
          subst eqs
          refine ite_t rfl ?_
          refine ⟨_, rfl, pp, _, _, _, rfl, rfl, SqT.of hpp, (show atI _ ((0 : Nat) : Int) = some (V.int n0) from atI_nat rfl), _, _, false, rfl, TyOf.int _, rfl, _, rfl, ?_⟩
          exact ite_f rfl ⟨rfl, hskip him⟩
      · have hsub : subs[i - (1 + hd.length)]? = some d := by
          cases i with
          | zero => omega
          | succ i =>
            have hd2 : (hd ++ subs)[i]? = some d := hd1
            rw [List.getElem?_append_right (by omega)] at hd2
            rw [show i + 1 - (1 + hd.length) = i - hd.length by omega]
            exact hd2
        obtain ⟨_, _, _, _, hm1⟩ := hms _ d hsub
        obtain ⟨ww, rest, rfl⟩ := hm1.tup
        obtain ⟨pp, qs, rfl, hpp, hqs⟩ := hdx.tupI
        obtain ⟨y0, yr, rfl, hy0, _⟩ := hqs.consI
        have ey : y0 = .str ww := by unfold Dat at hy0; exact hy0
        subst ey
        refine ite_t rfl ?_
        refine ⟨_, rfl, pp, _, _, _, rfl, rfl, SqT.of hpp, (show atI _ ((0 : Nat) : Int) = _ from atI_nat rfl), _, _, true, rfl, TyOf.str _, rfl, _, rfl, ?_⟩
        refine ite_t rfl ?_
        refine ⟨_, rfl, rfl, ?_⟩
        rw [List.take_add_one, hx, List.drop_append_of_le_length (by rw [List.length_take]; omega)]
        rfl
    · rintro ys H' ⟨rfl, rfl⟩ pl hpl
      have etk : ((V.str z :: r0).take (V.str z :: r0).length).drop (1 + hd.length) = r0.drop hd.length := by
        rw [List.take_length, Nat.add_comm]
        rfl
      rw [etk]
      have t1 := same_new hpl (.lst (r0.drop hd.length))
      have fl := upd_same (H := H) (a := pl) (o := .lst (r0.drop hd.length))
      generalize upd H pl (.lst (r0.drop hd.length)) = H1 at t1 fl ⊢
      have hys : Dats H1 subs (r0.drop hd.length) := by
        have := (hr0.same t1).drop hd.length
        rw [List.drop_left] at this
        exact this
      have hyl := hys.length
      generalize r0.drop hd.length = ys at fl hys hyl
      refine ⟨_, rfl, pl, rfl, ⟨_, SqL.of fl⟩, comp_list (xs := ys) (fun i zs H' => ∃ (rs : List Addr) (ps : List (Int × Int)), zs = rs.map V.ref ∧ Same H1 H' ∧ Paired (fun r (p : Int × Int) => H r = none ∧ H' r = some (.lst (bits p.1 p.2)) ∧ Rng p.1.toNat p.2) rs ps ∧ ps.length = i ∧ ps.map (·.1) = ws.take i ∧ ps.map (·.2) = us.take i) ⟨[], [], rfl, Same.refl _, .nil, rfl, rfl, rfl⟩ ?_ ?_ ?_ ?_⟩
      · rintro i zs H' _ ⟨_, _, _, s', _⟩
        exact SqL.of (s' _ _ fl)
      · rintro i zs H' hi ⟨rs, ps, rfl, s', hp', hl, _⟩
        rw [List.length_map, Paired.length hp']
        exact smallL (by omega)
      · rintro i y zs H' hy ⟨rs, ps, rfl, s', hp', hl, m1, m2⟩
        obtain ⟨sd, hsd, hyd⟩ := hys.get hy
        obtain ⟨a, u, ha, hu, hMs⟩ := hms i sd hsd
        unfold tYes
        refine iteT ⟨_, rfl, _, rfl, _, rfl, sd, y, wd, nd, wk, nk, a, u, rfl, hyd.same s', hwd.same (t1.trans s'), hnd.same (t1.trans s'), hMs, fun t H2 ht s2 ht2 => ?_⟩
        refine ⟨rs ++ [t], ps ++ [(a, u)], by rw [List.map_append]; rfl, s'.trans s2, pairedSn (pairedMono (fun _ _ q => ⟨q.1, s2 _ _ q.2.1, q.2.2⟩) hp') (.cons ⟨(t1.trans s').free ht, ht2, hMs.rng.2⟩ .nil), by rw [List.length_append, hl]; rfl, ?_, ?_⟩
        · rw [List.map_append, m1, take_get ha]; rfl
        · rw [List.map_append, m2, take_get hu]; rfl
      · rintro zs H2 ⟨rs, ps, rfl, s2, hp2, hl, m1, m2⟩ lr hlr
        have hlw : ys.length = ws.length := by omega
        rw [hlw] at m1
        rw [hlw, k3] at m2
        rw [List.take_length] at m1 m2
        have t3 := same_new hlr (.lst (rs.map V.ref))
        have flr := upd_same (H := H2) (a := lr) (o := .lst (rs.map V.ref))
        have hp3 : Paired (fun r (p : Int × Int) => H r = none ∧ (upd H2 lr (.lst (rs.map V.ref))) r = some (.lst (bits p.1 p.2)) ∧ Rng p.1.toNat p.2) rs ps := pairedMono (fun _ _ q => ⟨q.1, t3 _ _ q.2.1, q.2.2⟩) hp2
        have s03 := (t1.trans s2).trans t3
        generalize upd H2 lr (.lst (rs.map V.ref)) = H3 at t3 flr hp3 s03 ⊢
        have hp1 := s03 _ _ hp
        have fin : ∀ p9 H9, H3 p9 = none → Same H3 H9 → H9 p9 = some (.lst (bits w x)) → Q (.ref p9) H9 := fun p9 H9 n9 s9 f9 => q p9 H9 (s03.free n9) (s03.trans s9) f9
        have one : ∀ a u, ws = [a] → us = [u] → ∃ r0, rs = [r0] ∧ H3 r0 = some (.lst (bits a u)) ∧ Rng a.toNat u := fun a u e1 e2 => by
          rw [e1] at m1
          rw [e2] at m2
          match ps, m1, m2, hp3 with
          | [(a', u')], m1, m2, .cons h .nil =>
            simp only [List.map_cons, List.map_nil, List.cons.injEq, and_true] at m1 m2
            subst m1 m2
            exact ⟨_, rfl, h.2⟩
        have two : ∀ a b u t, ws = [a, b] → us = [u, t] → ∃ r0 r1, rs = [r0, r1] ∧ H3 r0 = some (.lst (bits a u)) ∧ H3 r1 = some (.lst (bits b t)) ∧ Rng a.toNat u ∧ Rng b.toNat t := fun a b u t e1 e2 => by
          rw [e1] at m1
          rw [e2] at m2
          match ps, m1, m2, hp3 with
          | [(a', u'), (b', t')], m1, m2, .cons h (.cons h' .nil) =>
            simp only [List.map_cons, List.map_nil, List.cons.injEq, and_true] at m1 m2
            obtain ⟨e3, e4⟩ := m1
            obtain ⟨e5, e6⟩ := m2
            subst e3 e4 e5 e6
            exact ⟨_, _, rfl, h.2.1, h'.2.1, h.2.2, h'.2.2⟩
        have ev0 := ev
        cases ev with
        | not _ u =>
          obtain ⟨r0, rfl, f0, hx⟩ := one _ _ rfl rfl
          obtain ⟨n, rfl⟩ := Int.eq_ofNat_of_zero_le (show 0 ≤ w by omega)
          obtain ⟨U, rfl, hU⟩ := hx.nat
          have hU' : U < 2 ^ n := hU
          refine ⟨_, rfl, lr, _, _, _, rfl, rfl, SqL.of flr, rfl, ?_⟩
          refine ⟨_, rfl, rfl, _, rfl, ?_⟩
          refine ite_t (by decide) ⟨_, rfl, r0, rfl, ⟨_, SqL.of f0⟩, comp_list_map neg1 (SqL.of f0) (by rw [bits_len]; omega) (fun b hb N hN => ?_) fun p9 hp9 => ?_⟩
          · obtain ⟨i, rfl⟩ := bits_int hb
            exact ⟨_, rfl, _, _, rfl, rfl, hN⟩
          · rw [neg_bits hU']
            refine fin p9 _ hp9 (same_new hp9 _) ?_
            rw [upd_same, Int.toNat_natCast, cast_pow, show (((2 ^ n : Nat) : Int) - 1 - (U : Int)) = ((2 ^ n - (U + 1) : Nat) : Int) by omega]
        | up k _ u kk0 kk1 =>
          obtain ⟨r0, rfl, f0, hx⟩ := one _ _ rfl rfl
          obtain ⟨n, rfl⟩ := Int.eq_ofNat_of_zero_le (show 0 ≤ w by omega)
          obtain ⟨U, rfl, hU⟩ := hx.nat
          obtain ⟨k, rfl⟩ := Int.eq_ofNat_of_zero_le kk0
          obtain ⟨x1, r1, rfl, hx1, _⟩ := hr0.consI
          have e1 := hx1.intI
          subst e1
          refine ⟨_, rfl, lr, _, _, _, rfl, rfl, SqL.of flr, rfl, ?_⟩
          refine ⟨_, rfl, rfl, _, rfl, ?_⟩
          refine ite_f (by decide) ⟨_, rfl, rfl, _, rfl, ?_⟩
          refine ite_t (by decide) ⟨(by show 1 ≤ sizeLine; decide), fun p2 hp2 => ?_⟩
          have u2 := same_new hp2 (.lst [.int 0])
          have g2 := upd_same (H := H3) (a := p2) (o := .lst [.int 0])
          generalize upd H3 p2 (.lst [.int 0]) = H4 at u2 g2 ⊢
          refine ⟨_, rfl, p, _, _, _, rfl, rfl, SqT.of (u2 _ _ hp1), (show atI _ ((1 : Nat) : Int) = _ from atI_nat rfl), p2, _, _, rfl, rfl, g2, by omega, by omega, small (by show 1 * ((k : Int)).toNat ≤ 100000; omega), fun p4 hp4 => ?_⟩
          rw [Int.toNat_natCast, rep_zero]
          have u4 := same_new hp4 (.lst ((List.replicate k (0 : Int)).map V.int))
          have g4 := upd_same (H := H4) (a := p4) (o := .lst ((List.replicate k (0 : Int)).map V.int))
          generalize upd H4 p4 (.lst ((List.replicate k (0 : Int)).map V.int)) = H5 at u4 g4 ⊢
          have f05 := (u2.trans u4) _ _ f0
          refine ⟨_, rfl, p4, r0, _, _, rfl, rfl, g4, f05, small (by rw [List.length_map, List.length_replicate, bits_len]; omega), fun p5 hp5 => ?_⟩
          have u5 := same_new hp5 (.lst ((List.replicate k (0 : Int)).map V.int ++ bits (n : Int) (U : Int)))
          have g5 := upd_same (H := H5) (a := p5) (o := .lst ((List.replicate k (0 : Int)).map V.int ++ bits (n : Int) (U : Int)))
          generalize upd H5 p5 (.lst ((List.replicate k (0 : Int)).map V.int ++ bits (n : Int) (U : Int))) = H6 at u5 g5 ⊢
          refine ⟨_, rfl, _, _, rfl, .inl ⟨_, SqL.of (u5 _ _ f05), rfl⟩, _, rfl, p5, _, rfl, SqL.of g5, fun p9 hp9 => ?_⟩
          have s36 := (u2.trans u4).trans u5
          refine fin p9 _ (s36.free hp9) (s36.trans (same_new hp9 _)) ?_
          rw [upd_same, bits_len, Int.toNat_natCast, cut_to (by rw [List.length_append, bits_len]; omega)]
          congr 2
          unfold bits
          rw [← List.map_append, Int.toNat_natCast, Int.toNat_natCast, ← List.map_take, row_up, Int.toNat_natCast, cast_pow, cast_pow, ← Int.natCast_mul, ← Int.natCast_emod, Int.toNat_natCast]
        | down k _ u kk0 kk1 =>
          obtain ⟨r0, rfl, f0, hx⟩ := one _ _ rfl rfl
          obtain ⟨n, rfl⟩ := Int.eq_ofNat_of_zero_le (show 0 ≤ w by omega)
          obtain ⟨U, rfl, hU⟩ := hx.nat
          have hU' : U < 2 ^ n := hU
          obtain ⟨k, rfl⟩ := Int.eq_ofNat_of_zero_le kk0
          obtain ⟨x1, r1, rfl, hx1, _⟩ := hr0.consI
          have e1 := hx1.intI
          subst e1
          refine ⟨_, rfl, lr, _, _, _, rfl, rfl, SqL.of flr, rfl, ?_⟩
          refine ⟨_, rfl, rfl, _, rfl, ?_⟩
          refine ite_f (by decide) ⟨_, rfl, rfl, _, rfl, ?_⟩
          refine ite_f (by decide) ⟨_, rfl, rfl, _, rfl, ?_⟩
          refine ite_t (by decide) ⟨_, rfl, (by show 1 ≤ sizeLine; decide), fun p2 hp2 => ?_⟩
          have u2 := same_new hp2 (.lst [.int 0])
          have g2 := upd_same (H := H3) (a := p2) (o := .lst [.int 0])
          generalize upd H3 p2 (.lst [.int 0]) = H4 at u2 g2 ⊢
          refine ⟨_, rfl, p, _, _, _, rfl, rfl, SqT.of (u2 _ _ hp1), (show atI _ ((1 : Nat) : Int) = _ from atI_nat rfl), p2, _, _, rfl, rfl, g2, by omega, by omega, small (by show 1 * ((k : Int)).toNat ≤ 100000; omega), fun p4 hp4 => ?_⟩
          rw [Int.toNat_natCast, rep_zero]
          have u4 := same_new hp4 (.lst ((List.replicate k (0 : Int)).map V.int))
          have g4 := upd_same (H := H4) (a := p4) (o := .lst ((List.replicate k (0 : Int)).map V.int))
          generalize upd H4 p4 (.lst ((List.replicate k (0 : Int)).map V.int)) = H5 at u4 g4 ⊢
          have f05 := (u2.trans u4) _ _ f0
          refine ⟨r0, p4, _, _, rfl, rfl, f05, g4, small (by rw [List.length_map, List.length_replicate, bits_len]; omega), fun p5 hp5 => ?_⟩
          have u5 := same_new hp5 (.lst (bits (n : Int) (U : Int) ++ (List.replicate k (0 : Int)).map V.int))
          have g5 := upd_same (H := H5) (a := p5) (o := .lst (bits (n : Int) (U : Int) ++ (List.replicate k (0 : Int)).map V.int))
          generalize upd H5 p5 (.lst (bits (n : Int) (U : Int) ++ (List.replicate k (0 : Int)).map V.int)) = H6 at u5 g5 ⊢
          have s36 := (u2.trans u4).trans u5
          have hp6 := s36 _ _ hp1
          refine ⟨_, rfl, p, _, _, _, rfl, rfl, SqT.of hp6, (show atI _ ((1 : Nat) : Int) = _ from atI_nat rfl), _, rfl, _, rfl, p, _, _, _, rfl, rfl, SqT.of hp6, (show atI _ ((1 : Nat) : Int) = _ from atI_nat rfl), _, rfl, _, _, rfl, .inl ⟨_, SqL.of (u5 _ _ f05), rfl⟩, _, _, rfl, rfl, _, rfl, p5, _, rfl, SqL.of g5, fun p9 hp9 => ?_⟩
          refine fin p9 _ (s36.free hp9) (s36.trans (same_new hp9 _)) ?_
          rw [upd_same, bits_len, Int.toNat_natCast, cut_mid (by rw [List.length_append, bits_len, List.length_map, List.length_replicate]; omega)]
          congr 2
          unfold bits
          rw [← List.map_append, Int.toNat_natCast, Int.toNat_natCast, ← List.map_drop, ← List.map_take, row_down hU', Int.toNat_natCast, cast_pow, ← Int.natCast_ediv, Int.toNat_natCast]
        | cut f _ a u c0 c1 c2 =>
          obtain ⟨r0, rfl, f0, hx⟩ := one _ _ rfl rfl
          obtain ⟨n, rfl⟩ := Int.eq_ofNat_of_zero_le (show 0 ≤ a by omega)
          obtain ⟨U, rfl, hU⟩ := hx.nat
          obtain ⟨f, rfl⟩ := Int.eq_ofNat_of_zero_le c0
          obtain ⟨m, rfl⟩ := Int.eq_ofNat_of_zero_le c1
          obtain ⟨x1, r1, rfl, hx1, hr1⟩ := hr0.consI
          obtain ⟨x2, r2, rfl, hx2, _⟩ := hr1.consI
          have e1 := hx1.intI
          have e2 := hx2.intI
          subst e1 e2
          refine ⟨_, rfl, lr, _, _, _, rfl, rfl, SqL.of flr, rfl, ?_⟩
          refine ⟨_, rfl, rfl, _, rfl, ?_⟩
          refine ite_f (by decide) ⟨_, rfl, rfl, _, rfl, ?_⟩
          refine ite_f (by decide) ⟨_, rfl, rfl, _, rfl, ?_⟩
          refine ite_f (by decide) ⟨_, rfl, rfl, _, rfl, ?_⟩
          refine ite_t (by decide) ⟨_, rfl, _, rfl, p, _, _, _, rfl, rfl, SqT.of hp1, (show atI _ ((1 : Nat) : Int) = _ from atI_nat rfl), _, rfl, _, rfl, p, _, _, _, rfl, rfl, SqT.of hp1, (show atI _ ((1 : Nat) : Int) = _ from atI_nat rfl), _, rfl, p, _, _, _, rfl, rfl, SqT.of hp1, (show atI _ ((2 : Nat) : Int) = _ from atI_nat rfl), _, _, rfl, rfl, _, rfl, r0, _, rfl, SqL.of f0, fun p9 hp9 => ?_⟩
          refine fin p9 _ hp9 (same_new hp9 _) ?_
          rw [upd_same, cut_mid (by rw [bits_len]; omega)]
          congr 2
          unfold bits
          rw [Int.toNat_natCast, Int.toNat_natCast, ← List.map_drop, ← List.map_take, row_cut (by omega), Int.toNat_natCast, Int.toNat_natCast, cast_pow, cast_pow, ← Int.natCast_ediv, ← Int.natCast_emod, Int.toNat_natCast]
        | table _ a u ns h4 hl' t0 t1 =>
          obtain ⟨r0, rfl, f0, hx⟩ := one _ _ rfl rfl
          have ha8 := hwb a List.mem_cons_self
          obtain ⟨n, rfl⟩ := Int.eq_ofNat_of_zero_le (show 0 ≤ a by omega)
          obtain ⟨U, rfl, hU⟩ := hx.nat
          have hU' : U < 2 ^ n := hU
          obtain ⟨y1, r1, rfl, hy1, hr1⟩ := hr0.consI
          obtain ⟨y2, r2, rfl, hy2, hr2⟩ := hr1.consI
          obtain ⟨pt, ts, rfl, hpt, hts⟩ := hy2.tupI
          have ets : ts = ns.map V.int := dats_ints hts
          have e1 := hy1.intI
          subst ets e1
          refine ⟨_, rfl, lr, _, _, _, rfl, rfl, SqL.of flr, rfl, ?_⟩
          refine ⟨_, rfl, rfl, _, rfl, ?_⟩
          refine ite_f (by decide) ⟨_, rfl, rfl, _, rfl, ?_⟩
          refine ite_f (by decide) ⟨_, rfl, rfl, _, rfl, ?_⟩
          refine ite_f (by decide) ⟨_, rfl, rfl, _, rfl, ?_⟩
          refine ite_f (by decide) ⟨_, rfl, rfl, _, rfl, ?_⟩
          refine ite_t (by decide) ⟨_, rfl, p, _, _, _, rfl, rfl, SqT.of hp1, (show atI _ ((2 : Nat) : Int) = _ from atI_nat rfl), _, rfl, _, _, rfl, .inl ⟨_, SqL.of f0, rfl⟩, _, rfl, by rw [bits_len]; omega, by rw [bits_len]; omega, comp_range_map (lo := 0) (fun i => .int (((bt U i : Nat) : Int) * 2 ^ i)) (by rw [bits_len]; omega) (fun i hi N hN => ?_) fun p2 hp2 => ?_⟩
          · rw [bits_len] at hi
            refine ⟨_, rfl, _, rfl, r0, _, _, _, rfl, rfl, SqL.of f0, at0 (bits_at (by omega)), _, rfl, _, _, rfl, rfl, ⟨by omega, by omega, by have := bt_lt U i; simp only [Int.toNat_natCast, Int.natAbs_natCast]; omega⟩, ?_⟩
            dsimp only
            rw [show (0 + (i : Int)).toNat = i by omega, Int.toNat_natCast]
            exact hN
          · have e2 : (List.range (((bits (n : Int) (U : Int)).length : Nat) : Int).toNat).map (fun i => V.int (((bt U i : Nat) : Int) * 2 ^ i)) = ((List.range n).map fun i => ((bt U i : Nat) : Int) * 2 ^ i).map V.int := by
              rw [bits_len, List.map_map, show ((((n : Int)).toNat : Nat) : Int).toNat = n by omega]
              rfl
            rw [e2]
            have u2 := same_new hp2 (.lst (((List.range n).map fun i => ((bt U i : Nat) : Int) * 2 ^ i).map V.int))
            have g2 := upd_same (H := H3) (a := p2) (o := .lst (((List.range n).map fun i => ((bt U i : Nat) : Int) * 2 ^ i).map V.int))
            generalize upd H3 p2 (.lst (((List.range n).map fun i => ((bt U i : Nat) : Int) * 2 ^ i).map V.int)) = H4 at u2 g2 ⊢
            refine ⟨rfl, p2, _, rfl, SqL.of g2, ?_⟩
            rw [row_sum, Nat.mod_eq_of_lt hU']
            have hns : U < ns.length := by rw [Int.toNat_natCast, cast_pow] at hl'; omega
            refine ⟨pt, _, _, _, rfl, rfl, SqT.of (u2 _ _ (s03 _ _ hpt)), at_getD (by omega) (by omega), _, rfl, p, _, _, _, rfl, rfl, SqT.of (u2 _ _ hp1), (show atI _ ((1 : Nat) : Int) = _ from atI_nat rfl), _, w, rfl, hrx.1, by omega, by omega, fun p9 hp9 => ?_⟩
            exact fin p9 _ (u2.free hp9) (u2.trans (same_new hp9 _)) upd_same
        | choice _ c u t =>
          obtain ⟨r0, r1, r2, rfl, f0, f1, f2, hc, n1, n2⟩ : ∃ r0 r1 r2, rs = [r0, r1, r2] ∧ H3 r0 = some (.lst (bits 1 c)) ∧ H3 r1 = some (.lst (bits w u)) ∧ H3 r2 = some (.lst (bits w t)) ∧ Rng (1 : Int).toNat c ∧ H r1 = none ∧ H r2 = none := by
            match ps, m1, m2, hp3 with
            | [(a', u'), (b', t'), (c', v')], m1, m2, .cons h (.cons h' (.cons h'' .nil)) =>
              simp only [List.map_cons, List.map_nil, List.cons.injEq, and_true] at m1 m2
              obtain ⟨e3, e4, e5⟩ := m1
              obtain ⟨e6, e7, e8⟩ := m2
              subst e3 e4 e5 e6 e7 e8
              exact ⟨_, _, _, rfl, h.2.1, h'.2.1, h''.2.1, h.2.2, h'.1, h''.1⟩
          have hc01 : c = 0 ∨ c = 1 := by
            have h1 := hc.1
            have h2 : c < 2 := hc.2
            omega
          refine ⟨_, rfl, lr, _, _, _, rfl, rfl, SqL.of flr, rfl, ?_⟩
          refine ⟨_, rfl, rfl, _, rfl, ?_⟩
          refine ite_f (by decide) ⟨_, rfl, rfl, _, rfl, ?_⟩
          refine ite_f (by decide) ⟨_, rfl, rfl, _, rfl, ?_⟩
          refine ite_f (by decide) ⟨_, rfl, rfl, _, rfl, ?_⟩
          refine ite_f (by decide) ⟨_, rfl, rfl, _, rfl, ?_⟩
          refine ite_f (by decide) ⟨_, rfl, rfl, _, rfl, ?_⟩
          refine ite_t (by decide) ⟨_, rfl, lr, _, _, _, rfl, rfl, SqL.of flr, (show atI _ ((2 : Nat) : Int) = _ from atI_nat rfl), _, rfl, lr, _, _, _, rfl, rfl, SqL.of flr, (show atI _ ((1 : Nat) : Int) = _ from atI_nat rfl), (by show 2 ≤ sizeLine; decide), fun p2 hp2 => ?_⟩
          have u2 := same_new hp2 (.lst [.ref r2, .ref r1])
          have g2 := upd_same (H := H3) (a := p2) (o := .lst [.ref r2, .ref r1])
          generalize upd H3 p2 (.lst [.ref r2, .ref r1]) = H4 at u2 g2 ⊢
          rcases hc01 with rfl | rfl
          · refine ⟨_, rfl, r0, _, _, _, rfl, rfl, SqL.of (u2 _ _ f0), rfl, p2, _, _, _, rfl, rfl, SqL.of g2, rfl, ?_⟩
            rw [if_neg (by decide)] at fin q
            exact q r2 H4 n2 (s03.trans u2) (u2 _ _ f2)
          · refine ⟨_, rfl, r0, _, _, _, rfl, rfl, SqL.of (u2 _ _ f0), rfl, p2, _, _, _, rfl, rfl, SqL.of g2, rfl, ?_⟩
            rw [if_pos rfl] at fin q
            exact q r1 H4 n1 (s03.trans u2) (u2 _ _ f1)
        | and =>
          obtain ⟨r0, r1, rfl, f0, f1, hx, hy⟩ := two _ _ _ _ rfl rfl
          refine ⟨_, rfl, lr, _, _, _, rfl, rfl, SqL.of flr, rfl, ?_⟩
          refine ⟨_, rfl, rfl, _, rfl, ?_⟩
          refine ite_f (by decide) ⟨_, rfl, rfl, _, rfl, ?_⟩
          refine ite_f (by decide) ⟨_, rfl, rfl, _, rfl, ?_⟩
          refine ite_f (by decide) ⟨_, rfl, rfl, _, rfl, ?_⟩
          refine ite_f (by decide) ⟨_, rfl, rfl, _, rfl, ?_⟩
          refine ite_f (by decide) ⟨_, rfl, rfl, _, rfl, ?_⟩
          refine ite_f (by decide) ⟨_, rfl, _, rfl, _, rfl, lr, _, _, _, rfl, rfl, SqL.of flr, rfl, _, r0, r1, _, _, _, _, _, _, rfl, f0, f1, ev0, hx, hy, hwb _ List.mem_cons_self, hwb _ (List.mem_cons_of_mem _ List.mem_cons_self), fun p9 H9 hp9 s9 f9 => fin p9 H9 hp9 s9 f9⟩
        | or =>
          obtain ⟨r0, r1, rfl, f0, f1, hx, hy⟩ := two _ _ _ _ rfl rfl
          refine ⟨_, rfl, lr, _, _, _, rfl, rfl, SqL.of flr, rfl, ?_⟩
          refine ⟨_, rfl, rfl, _, rfl, ?_⟩
          refine ite_f (by decide) ⟨_, rfl, rfl, _, rfl, ?_⟩
          refine ite_f (by decide) ⟨_, rfl, rfl, _, rfl, ?_⟩
          refine ite_f (by decide) ⟨_, rfl, rfl, _, rfl, ?_⟩
          refine ite_f (by decide) ⟨_, rfl, rfl, _, rfl, ?_⟩
          refine ite_f (by decide) ⟨_, rfl, rfl, _, rfl, ?_⟩
          refine ite_f (by decide) ⟨_, rfl, _, rfl, _, rfl, lr, _, _, _, rfl, rfl, SqL.of flr, rfl, _, r0, r1, _, _, _, _, _, _, rfl, f0, f1, ev0, hx, hy, hwb _ List.mem_cons_self, hwb _ (List.mem_cons_of_mem _ List.mem_cons_self), fun p9 H9 hp9 s9 f9 => fin p9 H9 hp9 s9 f9⟩
        | odd =>
          obtain ⟨r0, r1, rfl, f0, f1, hx, hy⟩ := two _ _ _ _ rfl rfl
          refine ⟨_, rfl, lr, _, _, _, rfl, rfl, SqL.of flr, rfl, ?_⟩
          refine ⟨_, rfl, rfl, _, rfl, ?_⟩
          refine ite_f (by decide) ⟨_, rfl, rfl, _, rfl, ?_⟩
          refine ite_f (by decide) ⟨_, rfl, rfl, _, rfl, ?_⟩
          refine ite_f (by decide) ⟨_, rfl, rfl, _, rfl, ?_⟩
          refine ite_f (by decide) ⟨_, rfl, rfl, _, rfl, ?_⟩
          refine ite_f (by decide) ⟨_, rfl, rfl, _, rfl, ?_⟩
          refine ite_f (by decide) ⟨_, rfl, _, rfl, _, rfl, lr, _, _, _, rfl, rfl, SqL.of flr, rfl, _, r0, r1, _, _, _, _, _, _, rfl, f0, f1, ev0, hx, hy, hwb _ List.mem_cons_self, hwb _ (List.mem_cons_of_mem _ List.mem_cons_self), fun p9 H9 hp9 s9 f9 => fin p9 H9 hp9 s9 f9⟩
        | sum =>
          obtain ⟨r0, r1, rfl, f0, f1, hx, hy⟩ := two _ _ _ _ rfl rfl
          refine ⟨_, rfl, lr, _, _, _, rfl, rfl, SqL.of flr, rfl, ?_⟩
          refine ⟨_, rfl, rfl, _, rfl, ?_⟩
          refine ite_f (by decide) ⟨_, rfl, rfl, _, rfl, ?_⟩
          refine ite_f (by decide) ⟨_, rfl, rfl, _, rfl, ?_⟩
          refine ite_f (by decide) ⟨_, rfl, rfl, _, rfl, ?_⟩
          refine ite_f (by decide) ⟨_, rfl, rfl, _, rfl, ?_⟩
          refine ite_f (by decide) ⟨_, rfl, rfl, _, rfl, ?_⟩
          refine ite_f (by decide) ⟨_, rfl, _, rfl, _, rfl, lr, _, _, _, rfl, rfl, SqL.of flr, rfl, _, r0, r1, _, _, _, _, _, _, rfl, f0, f1, ev0, hx, hy, hwb _ List.mem_cons_self, hwb _ (List.mem_cons_of_mem _ List.mem_cons_self), fun p9 H9 hp9 s9 f9 => fin p9 H9 hp9 s9 f9⟩
        | less =>
          obtain ⟨r0, r1, rfl, f0, f1, hx, hy⟩ := two _ _ _ _ rfl rfl
          refine ⟨_, rfl, lr, _, _, _, rfl, rfl, SqL.of flr, rfl, ?_⟩
          refine ⟨_, rfl, rfl, _, rfl, ?_⟩
          refine ite_f (by decide) ⟨_, rfl, rfl, _, rfl, ?_⟩
          refine ite_f (by decide) ⟨_, rfl, rfl, _, rfl, ?_⟩
          refine ite_f (by decide) ⟨_, rfl, rfl, _, rfl, ?_⟩
          refine ite_f (by decide) ⟨_, rfl, rfl, _, rfl, ?_⟩
          refine ite_f (by decide) ⟨_, rfl, rfl, _, rfl, ?_⟩
          refine ite_f (by decide) ⟨_, rfl, _, rfl, _, rfl, lr, _, _, _, rfl, rfl, SqL.of flr, rfl, _, r0, r1, _, _, _, _, _, _, rfl, f0, f1, ev0, hx, hy, hwb _ List.mem_cons_self, hwb _ (List.mem_cons_of_mem _ List.mem_cons_self), fun p9 H9 hp9 s9 f9 => fin p9 H9 hp9 s9 f9⟩
        | under =>
          obtain ⟨r0, r1, rfl, f0, f1, hx, hy⟩ := two _ _ _ _ rfl rfl
          refine ⟨_, rfl, lr, _, _, _, rfl, rfl, SqL.of flr, rfl, ?_⟩
          refine ⟨_, rfl, rfl, _, rfl, ?_⟩
          refine ite_f (by decide) ⟨_, rfl, rfl, _, rfl, ?_⟩
          refine ite_f (by decide) ⟨_, rfl, rfl, _, rfl, ?_⟩
          refine ite_f (by decide) ⟨_, rfl, rfl, _, rfl, ?_⟩
          refine ite_f (by decide) ⟨_, rfl, rfl, _, rfl, ?_⟩
          refine ite_f (by decide) ⟨_, rfl, rfl, _, rfl, ?_⟩
          refine ite_f (by decide) ⟨_, rfl, _, rfl, _, rfl, lr, _, _, _, rfl, rfl, SqL.of flr, rfl, _, r0, r1, _, _, _, _, _, _, rfl, f0, f1, ev0, hx, hy, hwb _ List.mem_cons_self, hwb _ (List.mem_cons_of_mem _ List.mem_cons_self), fun p9 H9 hp9 s9 f9 => fin p9 H9 hp9 s9 f9⟩
        | same =>
          obtain ⟨r0, r1, rfl, f0, f1, hx, hy⟩ := two _ _ _ _ rfl rfl
          refine ⟨_, rfl, lr, _, _, _, rfl, rfl, SqL.of flr, rfl, ?_⟩
          refine ⟨_, rfl, rfl, _, rfl, ?_⟩
          refine ite_f (by decide) ⟨_, rfl, rfl, _, rfl, ?_⟩
          refine ite_f (by decide) ⟨_, rfl, rfl, _, rfl, ?_⟩
          refine ite_f (by decide) ⟨_, rfl, rfl, _, rfl, ?_⟩
          refine ite_f (by decide) ⟨_, rfl, rfl, _, rfl, ?_⟩
          refine ite_f (by decide) ⟨_, rfl, rfl, _, rfl, ?_⟩
          refine ite_f (by decide) ⟨_, rfl, _, rfl, _, rfl, lr, _, _, _, rfl, rfl, SqL.of flr, rfl, _, r0, r1, _, _, _, _, _, _, rfl, f0, f1, ev0, hx, hy, hwb _ List.mem_cons_self, hwb _ (List.mem_cons_of_mem _ List.mem_cons_self), fun p9 H9 hp9 s9 f9 => fin p9 H9 hp9 s9 f9⟩
        | join =>
          obtain ⟨r0, r1, rfl, f0, f1, hx, hy⟩ := two _ _ _ _ rfl rfl
          refine ⟨_, rfl, lr, _, _, _, rfl, rfl, SqL.of flr, rfl, ?_⟩
          refine ⟨_, rfl, rfl, _, rfl, ?_⟩
          refine ite_f (by decide) ⟨_, rfl, rfl, _, rfl, ?_⟩
          refine ite_f (by decide) ⟨_, rfl, rfl, _, rfl, ?_⟩
          refine ite_f (by decide) ⟨_, rfl, rfl, _, rfl, ?_⟩
          refine ite_f (by decide) ⟨_, rfl, rfl, _, rfl, ?_⟩
          refine ite_f (by decide) ⟨_, rfl, rfl, _, rfl, ?_⟩
          refine ite_f (by decide) ⟨_, rfl, _, rfl, _, rfl, lr, _, _, _, rfl, rfl, SqL.of flr, rfl, _, r0, r1, _, _, _, _, _, _, rfl, f0, f1, ev0, hx, hy, hwb _ List.mem_cons_self, hwb _ (List.mem_cons_of_mem _ List.mem_cons_self), fun p9 H9 hp9 s9 f9 => fin p9 H9 hp9 s9 f9⟩
theorem ok_L_good (T : Tx w K mg A) (G_worth : FnOk P w K mg base CX0 10 A.a_worth A.d_worth ["saying", "widths", "numbers"] (sp_worth 6)) (G_L_worth : FnOk P w K mg base CX0 9 A.a_L_worth A.d_L_worth ["_law_saying", "_law_widths", "_law_numbers"] (sp_lw 6)) : FnOk P w K mg base CX0 11 A.a_L_good A.d_L_good ["_law_saying", "_law_widths", "_law_numbers"] sp_L_good := by
  refine T.F_L_good.ok sc_L_good (fun vs H Q E h => ?_) (fun cdv A' outer s H vs Q E hr h => ?_)
  · obtain ⟨d, v, wd, nd, wk, nk, w', x, rfl, hD, hwd, hnd, hM, dw, dn, q⟩ := h
    rfl
  obtain ⟨d, v, wd, nd, wk, nk, w', x, rfl, hD, hwd, hnd, hM, dw, dn, q⟩ := h
  have hu := hu_of hr
  refine ⟨_, (pss_cons (ps_set (i := 3) sc_L_good.nd rfl (Or.inl rfl) (pe_lst (pa_cons (pe_callTy call_dict_rd rfl T.dict PyProof.Rows.boot_dict (pa_cons (pv 1) pa_nil)) (pa_cons (pe_callTy call_dict_rd rfl T.dict PyProof.Rows.boot_dict (pa_cons (pv 2) pa_nil)) pa_nil))))
    (pss_cons (ps_set (i := 4) sc_L_good.nd rfl (Or.inl rfl) (pe_call G_worth (hr.mono (by first | decide | omega)) rfl T.M_worth T.F_worth.kp T.B_worth .nil pass0 (pa_cons (pv 0) (pa_cons (pe_ix ix_list (pv 3) pe_int (fun _ _ => rfl)) (pa_cons (pe_ix ix_list (pv 3) pe_int (fun _ _ => rfl)) pa_nil)))))
    (pss_cons (ps_if (PW.pt (pw_or (pt_not (pt_truth (pe_callB (call_isinst (T := "int")) rfl T.isinstance PyProof.Rows.boot_isinstance (pa_cons (pv 4) (pa_cons (pe_bltn (v := .ty "int") rfl T.int PyProof.Rows.boot_int rfl) pa_nil))) (fun _ => rfl))) (pw_or (pt_truth (pe_callB (call_isinst (T := "bool")) rfl T.isinstance PyProof.Rows.boot_isinstance (pa_cons (pv 4) (pa_cons (pe_bltn (v := .ty "bool") rfl T.bool PyProof.Rows.boot_bool rfl) pa_nil))) (fun _ => rfl)) (pw_or1 (pt_cmpR (op_neDicts hu) (pv 3) (pe_lst (pa_cons (pv 1) (pa_cons (pv 2) pa_nil))) (nomark _)))))) (pss_one (ps_ret pe_bl)) pss_nil)
    (pss_cons (ps_set (i := 5) sc_L_good.nd rfl (Or.inr rfl) (pe_call G_L_worth (hr.mono (by first | decide | omega)) rfl T.M_L_worth T.F_L_worth.kp T.B_L_worth .nil pass0 (pa_cons (pv 0) (pa_cons (pv 1) (pa_cons (pv 2) pa_nil)))))
    (pss_one (ps_ret (pe_cmpR op_eq (pv 4) (pe_callB call_sum rfl T.sum PyProof.Rows.boot_sum (pa_cons (pe_comp [5] (fun _ _ h => h) rfl (pi_range1 rfl T.range (pa_cons (pe_callB call_len rfl T.len PySem.boot_len (pa_cons (pv 5) pa_nil)) pa_nil)) (fun _ _ _ _ => pts_nil) (fun _ _ _ _ => (pe_op op_shl (pe_ix (ix_listK (K := K) rfl) (pv 1) (pv 0) (fun _ _ => rfl)) (pv 0))) rfl (show ∀ j ∈ ([5] : List Nat), j < 6 by decide) (show (["_law_k", "_law_due"] : List Str).Nodup by decide +kernel)) pa_nil)) (nomark _)))))))), ?_⟩
  refine ⟨_, rfl, wd, wk, rfl, hwd, fun p1 hp1 => ?_⟩
  have t1 := same_new hp1 (.dK wk)
  have f1 := upd_same (H := H) (a := p1) (o := .dK wk)
  have ne1 : p1 ≠ wd := fun e => by rcases hwd with h | ⟨o, h⟩ <;> (rw [e, h] at hp1; cases hp1)
  generalize upd H p1 (.dK wk) = H1 at t1 f1 ⊢
  have hnd1 := hnd.same t1
  refine ⟨_, rfl, nd, nk, rfl, hnd1, fun p2 hp2 => ?_⟩
  have t2 := same_new hp2 (.dK nk)
  have f2 := upd_same (H := H1) (a := p2) (o := .dK nk)
  have ne2 : p2 ≠ nd := fun e => by rcases hnd1 with h | ⟨o, h⟩ <;> (rw [e, h] at hp2; cases hp2)
  generalize upd H1 p2 (.dK nk) = H2 at t2 f2 ⊢
  refine ⟨(by show 2 ≤ sizeLine; decide), fun p3 hp3 => ?_⟩
  show tSeq _ _ _ _ (upd H2 p3 (.lst [.ref p1, .ref p2]))
  have t3 := same_new hp3 (.lst [.ref p1, .ref p2])
  have f3 := upd_same (H := H2) (a := p3) (o := .lst [.ref p1, .ref p2])
  generalize upd H2 p3 (.lst [.ref p1, .ref p2]) = H3 at t3 f3 ⊢
  have s03 := (t1.trans t2).trans t3
  refine ⟨_, rfl, _, rfl, p3, _, _, _, rfl, rfl, SqL.of f3, rfl, _, rfl, p3, _, _, _, rfl, rfl, SqL.of f3, rfl, d, v, p1, p2, wk, nk, w', x, rfl, hD.same s03, (t2.trans t3) _ _ f1, t3 _ _ f2, hM.ms, fun H4 s4 => ?_⟩
  have s04 := s03.trans s4
  refine ⟨_, rfl, _, _, true, rfl, TyOf.int _, rfl, _, rfl, ?_⟩
  refine ite_f rfl ⟨_, rfl, _, _, false, rfl, TyOf.int _, rfl, _, rfl, ?_⟩
  refine ite_f rfl ⟨_, rfl, _, rfl, _, rfl, (by show 2 ≤ sizeLine; decide), fun p5 hp5 => ?_⟩
  have t5 := same_new hp5 (.lst [.ref wd, .ref nd])
  have f5 := upd_same (H := H4) (a := p5) (o := .lst [.ref wd, .ref nd])
  generalize upd H4 p5 (.lst [.ref wd, .ref nd]) = H5 at t5 f5 ⊢
  have s05 := s04.trans t5
  have s45 := s4.trans t5
  refine ⟨p3, p5, p1, p2, wd, nd, wk, nk, rfl, rfl, s45 _ _ f3, f5, .inl (((t2.trans t3).trans s45) _ _ f1), hwd.same s05, .inl ((t3.trans s45) _ _ f2), hnd.same s05, ne1, ne2, dw.1, dw.2, dn.1, dn.2, _, rfl, ?_⟩
  refine ite_f rfl ?_
  refine ⟨_, rfl, _, rfl, _, rfl, d, v, wd, nd, wk, nk, w', x, rfl, hD.same s05, hwd.same s05, hnd.same s05, hM, fun p6 H6 hp6 s6 f6 => ?_⟩
  obtain ⟨hw8, hrx⟩ := hM.rng
  obtain ⟨n, rfl⟩ := Int.eq_ofNat_of_zero_le (show 0 ≤ w' by omega)
  obtain ⟨U, rfl, hU⟩ := hrx.nat
  have hU' : U < 2 ^ n := hU
  refine ⟨_, rfl, _, rfl, _, _, rfl, .inl ⟨_, SqL.of f6, rfl⟩, _, rfl, by rw [bits_len]; omega, by rw [bits_len]; omega, comp_range_map (lo := 0) (fun i => .int (((bt U i : Nat) : Int) * 2 ^ i)) (by rw [bits_len]; omega) (fun i hi N hN => ?_) fun p7 hp7 => ?_⟩
  · rw [bits_len] at hi
    refine ⟨_, rfl, _, rfl, p6, _, _, _, rfl, rfl, SqL.of f6, at0 (bits_at (by omega)), _, rfl, _, _, rfl, rfl, ⟨by omega, by omega, by have := bt_lt U i; simp only [Int.toNat_natCast, Int.natAbs_natCast]; omega⟩, ?_⟩
    dsimp only
    rw [show (0 + (i : Int)).toNat = i by omega, Int.toNat_natCast]
    exact hN
  · have e2 : (List.range (((bits (n : Int) (U : Int)).length : Nat) : Int).toNat).map (fun i => V.int (((bt U i : Nat) : Int) * 2 ^ i)) = ((List.range n).map fun i => ((bt U i : Nat) : Int) * 2 ^ i).map V.int := by
      rw [bits_len, List.map_map, show ((((n : Int)).toNat : Nat) : Int).toNat = n by omega]
      rfl
    rw [e2]
    refine ⟨rfl, p7, _, rfl, SqL.of upd_same, rfl, ?_⟩
    rw [row_sum, Nat.mod_eq_of_lt hU', decide_eq_true rfl]
    exact q _ ((s05.trans s6).trans (same_new hp7 _))
theorem ok_law (T : Tx w K mg A) (G_L_bag : FnOk P w K mg base CX0 1 A.a_L_bag A.d_L_bag ["_law_script", "_law_at"] (sp_L_bag K)) (G_L_names : FnOk P w K mg base CX0 2 A.a_L_names A.d_L_names ["_law_bag_here"] sp_L_names) (G_L_typed : FnOk P w K mg base CX0 9 A.a_L_typed A.d_L_typed ["_law_bag_here", "_law_widths", "_law_width", "_law_deep", "_law_room"] (sp_typed 6)) (G_L_take : FnOk P w K mg base CX0 1 A.a_L_take A.d_L_take ["_law_bag_here", "_law_many"] sp_L_take) (G_L_good : FnOk P w K mg base CX0 11 A.a_L_good A.d_L_good ["_law_saying", "_law_widths", "_law_numbers"] sp_L_good) : FnOk P w K mg base CX0 12 A.a_law A.d_law ["_law_script"] (sp_law K) := by
  refine T.F_law.ok sc_law (fun vs H Q E h => ?_) (fun cdv A' outer s H vs Q E hr h => ?_)
  · obtain ⟨a, ns, rfl, hS, h63, q⟩ := h
    rfl
  obtain ⟨a, ns, rfl, hS, h63, q⟩ := h
  have hu := hu_of hr
  refine ⟨_, (pss_cons (ps_for PassesOwn.never rfl (pi_range1 rfl T.range (pa_cons (pe_callB (call_max2 rfl) rfl T.max PyProof.Rows.boot_max (pa_cons pe_int (pa_cons (pe_callB (call_min2 rfl) rfl T.min PyProof.Rows.boot_min (pa_cons (pe_callB call_len rfl T.len PySem.boot_len (pa_cons (pv 0) pa_nil)) (pa_cons pe_int pa_nil))) pa_nil))) pa_nil)) (pg_name (i := 1) sc_law.nd rfl (Or.inl rfl))
        (pss_cons (ps_set (i := 2) sc_law.nd rfl (Or.inl rfl) (pe_call G_L_bag (hr.mono (by first | decide | omega)) rfl T.M_L_bag T.F_L_bag.kp T.B_L_bag .nil pass0 (pa_cons (pv 0) (pa_cons (pv 1) pa_nil))))
    (pss_cons (ps_set (i := 3) sc_law.nd rfl (Or.inl rfl) pe_dnewK)
    (pss_cons (ps_for PassesOwn.never rfl (pi_list (pe_call G_L_names (hr.mono (by first | decide | omega)) rfl T.M_L_names T.F_L_names.kp T.B_L_names .nil pass0 (pa_cons (pv 2) pa_nil))) (pg_name (i := 4) sc_law.nd rfl (Or.inl rfl))
        (pss_one (ps_dput hu (pv 3) (pv 4) (pe_op op_add pe_int (pe_call G_L_take (hr.mono (by first | decide | omega)) rfl T.M_L_take T.F_L_take.kp T.B_L_take .nil pass0 (pa_cons (pv 2) (pa_cons pe_int pa_nil)))) rfl)))
    (pss_cons (ps_frz (ps_set (i := 5) sc_law.nd rfl (Or.inl rfl) (pe_ix ix_list (pe_lst (pa_consts rfl)) (pe_call G_L_take (hr.mono (by first | decide | omega)) rfl T.M_L_take T.F_L_take.kp T.B_L_take .nil pass0 (pa_cons (pv 2) (pa_cons pe_int pa_nil))) (fun _ _ => rfl))))
    (pss_cons (ps_set (i := 6) sc_law.nd rfl (Or.inl rfl) (pe_call G_L_typed (hr.mono (by first | decide | omega)) rfl T.M_L_typed T.F_L_typed.kp T.B_L_typed .nil pass0 (pa_cons (pv 2) (pa_cons (pv 3) (pa_cons (pe_op op_add pe_int (pe_call G_L_take (hr.mono (by first | decide | omega)) rfl T.M_L_take T.F_L_take.kp T.B_L_take .nil pass0 (pa_cons (pv 2) (pa_cons pe_int pa_nil)))) (pa_cons pe_int (pa_cons (pv 5) pa_nil)))))))
    (pss_one (ps_for PassesOwn.never rfl (pi_range1 rfl T.range (pa_cons pe_int pa_nil)) (pg_name (i := 7) sc_law.nd rfl (Or.inl rfl))
        (pss_cons (ps_set (i := 8) sc_law.nd rfl (Or.inl rfl) pe_dnewK)
    (pss_cons (ps_for PassesOwn.never rfl (pi_dict (pv 3)) (pg_name (i := 4) sc_law.nd rfl (Or.inl rfl))
        (pss_one (ps_dput hu (pv 8) (pv 4) (pe_call G_L_take (hr.mono (by first | decide | omega)) rfl T.M_L_take T.F_L_take.kp T.B_L_take .nil pass0 (pa_cons (pv 2) (pa_cons (pe_op op_shl pe_int (pe_dget hu (pv 3) (pv 4) (fun _ _ => rfl))) pa_nil))) rfl)))
    (pss_one (ps_if (pt_not (pt_truth (pe_call G_L_good (hr.mono (by first | decide | omega)) rfl T.M_L_good T.F_L_good.kp T.B_L_good .nil pass0 (pa_cons (pv 6) (pa_cons (pv 3) (pa_cons (pv 8) pa_nil)))) (fun _ => rfl))) (pss_one (ps_ret pe_bl)) pss_nil))))))))))))
    (pss_one (ps_ret pe_bl))), ?_⟩
  have hl : (ns.map V.int).length = ns.length := List.length_map _
  refine ⟨_, rfl, _, _, rfl, .inl ⟨_, hS, rfl⟩, _, _, rfl, _, _, rfl, _, rfl, ?_, ?_, for_range (lo := 0) (fun i σ H' => ∃ (x1 x2 x3 x4 x5 x6 x7 x8 : Option V), σ = [some (.ref a), x1, x2, x3, x4, x5, x6, x7, x8] ∧ Same H H') ⟨_, _, _, _, _, _, _, _, rfl, Same.refl H⟩ ?_ ?_⟩
  · split <;> split <;> omega
  · split <;> split <;> omega
  · rintro i σ H1 hi ⟨x1, x2, x3, x4, x5, x6, x7, x8, rfl, s1⟩
    refine ⟨_, rfl, _, rfl, a, ns, _, rfl, s1.seq hS, h63, by omega, fun l b0 b1 hl1 hb0 => ?_⟩
    have s2 := s1.trans (same_new hl1 (.lst [.int b0, .int b1]))
    have bag2 : Bag (upd H1 l (.lst [.int b0, .int b1])) l := ⟨b0, b1, upd_same, hb0⟩
    have hlH := s1.free hl1
    generalize upd H1 l (.lst [.int b0, .int b1]) = H2 at s2 bag2 ⊢
    refine fun wd hwd => ?_
    have nwl : wd ≠ l := bag2.ne hwd
    have g3 := Bg.new bag2 hwd (.dK [])
    have fw3 := upd_same (H := H2) (a := wd) (o := .dK [])
    generalize upd H2 wd (.dK []) = H3 at g3 fw3 ⊢
    refine ⟨_, rfl, l, rfl, g3.2, fun pn zs H4 hz6 npl hpn g4' fn => ?_⟩
    have nwn : pn ≠ wd := (ne_of_none fw3 hpn).symm
    have g4 := g3.trans g4'
    have fw4 := g4'.1 _ _ nwl fw3
    refine ⟨pn, rfl, ⟨_, SqL.of fn⟩, for_list (xs := zs.map V.str) (fun j σ H' => ∃ (y4 : Option V) (kvs : List (Key × V)), σ = [some (.ref a), some (.int (0 + (i : Int))), some (.ref l), some (.ref wd), y4, x5, x6, x7, x8] ∧ Bg l H2 H' ∧ H' pn = some (.lst (zs.map V.str)) ∧ H' wd = some (.dK kvs) ∧ GoodD kvs j) ⟨_, [], rfl, g4, fn, fw4, GoodD.nil⟩ ?_ ?_ ?_⟩
    · rintro j σ H' _ ⟨_, _, _, _, h, _⟩
      exact SqL.of h
    · rintro j x σ H' hx ⟨y4, kvs, rfl, g, hn, hw, gd⟩
      rw [List.getElem?_map] at hx
      obtain ⟨zz, hzz, rfl⟩ := Option.map_eq_some_iff.mp hx
      have hj := (List.getElem?_eq_some_iff.mp hzz).1
      have hkl := gd.2.2
      refine ⟨_, rfl, l, 8, rfl, g.2, by decide, by decide, fun d H7 d0 d1 hb7 => ?_⟩
      have hw7 := hb7.1 _ _ nwl hw
      refine ⟨_, _, rfl, rfl, _, rfl, _, rfl, wd, _, rfl, DPut.k (k := .inr zz) hw7 (smallL (by omega)), ?_⟩
      refine ⟨_, _, rfl, (g.trans hb7).set hwd nwl _, ?_, upd_same, gd.put (by omega) (by omega)⟩
      rw [upd_ne nwn]
      exact hb7.1 _ _ npl hn
    · rintro σ H6 ⟨y4, kvs, rfl, g6, fn6, fw6, gd⟩
      rw [List.length_map, hz6] at gd
      obtain ⟨kv, kw⟩ := gd.kw
      refine ⟨wd, kvs, fw6, fun o => ?_⟩
      have g7 := g6.set hwd nwl (.frz o (.dK kvs))
      have fw7 := upd_same (H := H6) (a := wd) (o := .frz o (.dK kvs))
      generalize upd H6 wd (.frz o (.dK kvs)) = H7 at g7 fw7 ⊢
      refine ⟨(by show 4 ≤ sizeLine; decide), fun p8 hp8 => ?_⟩
      have n8 : p8 ≠ l := g7.2.ne hp8
      have g8 := g7.trans (Bg.new g7.2 hp8 (.lst [.int 12, .int 12, .int 12, .int 40]))
      have fw8 := (same_new hp8 (.lst [.int 12, .int 12, .int 12, .int 40])) _ _ fw7
      have f8 := upd_same (H := H7) (a := p8) (o := .lst [.int 12, .int 12, .int 12, .int 40])
      show _
      generalize upd H7 p8 (.lst [.int 12, .int 12, .int 12, .int 40]) = H8 at g8 fw8 f8 ⊢
      refine ⟨_, rfl, l, 4, rfl, g8.2, by decide, by decide, fun d4 H9 d40 d41 hb9 => ?_⟩
      have g9 := g8.trans hb9
      have fw9 := hb9.1 _ _ nwl fw8
      have f9 := hb9.1 _ _ n8 f8
      obtain ⟨room, hroom, hr40⟩ : ∃ room : Int, atI [V.int 12, V.int 12, V.int 12, V.int 40] d4 = some (.int room) ∧ room ≤ 1001 := by
        have : d4 = 0 ∨ d4 = 1 ∨ d4 = 2 ∨ d4 = 3 := by omega
        rcases this with rfl | rfl | rfl | rfl
        · exact ⟨_, rfl, by decide⟩
        · exact ⟨_, rfl, by decide⟩
        · exact ⟨_, rfl, by decide⟩
        · exact ⟨_, rfl, by decide⟩
      refine ⟨p8, _, _, _, rfl, rfl, SqL.of f9, hroom, ?_⟩
      refine ⟨_, rfl, _, rfl, _, rfl, l, 8, rfl, g9.2, by decide, by decide, fun d H10 d0 d1 hb10 => ?_⟩
      have g10 := g9.trans hb10
      have fw10 := hb10.1 _ _ nwl fw9
      refine ⟨_, _, rfl, rfl, _, rfl, l, wd, o, kvs, kv, 1 + d, room, rfl, by decide, g10.2, fw10, kw, gd, by omega, by omega, hr40, fun dd v H11 tp hD hb11 => ?_⟩
      have g11 := g10.trans hb11
      have fw11 := hb11.1 _ _ nwl fw10
      refine ⟨_, rfl, by decide, by decide, for_range (lo := 0) (fun j σ H' => ∃ (y4 y7 y8 : Option V), σ = [some (.ref a), some (.int (0 + (i : Int))), some (.ref l), some (.ref wd), y4, some (.int room), some v, y7, y8] ∧ Bg l H2 H' ∧ H' wd = some (.frz o (.dK kvs)) ∧ Dat H' dd v) ⟨_, _, _, rfl, g11, fw11, hD⟩ ?_ ?_⟩
      · rintro j σ H12 hj ⟨y4, y7, y8, rfl, g12, fw12, hD⟩
        refine fun nd hnd => ?_
        have nnl : nd ≠ l := g12.2.ne hnd
        have hnd2 : H2 nd = none := (bgFree g12 hnd).2
        have nnw : wd ≠ nd := ne_of_none fw12 hnd
        have g13 := g12.trans (Bg.new g12.2 hnd (.dK []))
        have fw13 := (same_new hnd (.dK [])) _ _ fw12
        have hD13 := hD.same (same_new hnd (.dK []))
        have fn13 := upd_same (H := H12) (a := nd) (o := .dK [])
        generalize upd H12 nd (.dK []) = H13 at g13 fw13 hD13 fn13 ⊢
        refine ⟨_, rfl, wd, o, kvs, rfl, fw13, for_dict (fun m σ H' => ∃ (y4 : Option V) (nk : List (Key × V)), σ = [some (.ref a), some (.int (0 + (i : Int))), some (.ref l), some (.ref wd), y4, some (.int room), some v, some (.int (0 + (j : Int))), some (.ref nd)] ∧ Bg l H2 H' ∧ H' wd = some (.frz o (.dK kvs)) ∧ Dat H' dd v ∧ H' nd = some (.dK nk) ∧ DG nk ∧ nk.length ≤ m ∧ ∀ (m' : Nat) (kvp : Key × V), m' < m → kvs[m']? = some kvp → ∃ e : Int, valV nk kvp.1 = some (.int e) ∧ ∀ w' : Int, kvp.2 = .int w' → Rng w'.toNat e) ⟨_, [], rfl, g13, fw13, hD13, fn13, DG.nil, Nat.le_refl _, fun m' _ h => absurd h (Nat.not_lt_zero _)⟩ ?_ ?_ ?_⟩
        · rintro m σ H' _ ⟨_, _, _, _, h, _⟩
          exact h
        · rintro m kvp σ H' hkv ⟨y4, nk, rfl, g, hw, hD, hn, dg, hnl, hall⟩
          have hmem := List.mem_of_getElem? hkv
          obtain ⟨zz, w', e, w1, w8⟩ := gd.1 kvp hmem
          have hv := gd.2.1 kvp hmem
          subst e
          have hm6 : m < kvs.length := (List.getElem?_eq_some_iff.mp hkv).1
          have hk6 := gd.2.2
          have hp2 := pow_pos2 w'.toNat
          have hp3 := pow_le2 (n := w'.toNat) (by omega)
          refine ⟨_, rfl, _, rfl, _, rfl, wd, _, rfl, dgetR (.inr ⟨o, hw⟩) hv, _, _, rfl, rfl, ⟨by omega, by omega, by decide⟩, l, _, rfl, g.2, (by rw [Int.one_mul]; exact hp2), (by rw [Int.one_mul]; exact Int.lt_of_le_of_lt hp3 (by decide)), fun e H14 e0 e1 hb14 => ?_⟩
          rw [Int.one_mul] at e1
          have hn14 := hb14.1 _ _ nnl hn
          have hw14 := hb14.1 _ _ nwl hw
          have hD14 := hD.keepT (Bg.keepT g.2 hb14) tp.noL
          refine ⟨_, rfl, _, rfl, nd, _, rfl, DPut.k (k := .inr zz) hn14 (smallL (by omega)), ?_⟩
          refine ⟨_, _, rfl, (g.trans hb14).set hnd2 nnl _, ?_, hD14.keepT (KeepT.dict hn14 _) tp.noL, upd_same, dg.put _ _, ?_, fun m' kvq hm' hq => ?_⟩
          · rw [upd_ne nnw]; exact hw14
          · have := length_putK nk (.inr zz : Key) (.int e : V)
            omega
          · rw [valV_put]
            by_cases hk : kvq.1 = .inr zz
            · refine ⟨e, by rw [if_pos hk], fun w'' hw'' => ?_⟩
              have h1 := gd.2.1 kvq (List.mem_of_getElem? hq)
              rw [hk] at h1
              have h2 : valV kvs (.inr zz) = some (.int w') := hv
              rw [h2, hw''] at h1
              have h3 := Option.some.inj h1
              injection h3 with h3
              rw [← h3]
              exact ⟨e0, e1⟩
            · rw [if_neg hk]
              by_cases hlt : m' < m
              · exact hall m' kvq hlt hq
              · have : m' = m := by omega
                rw [this, hkv] at hq
                cases hq
                exact absurd rfl hk
        · rintro σ H14 ⟨y4, nk, rfl, g14, fw14, hD14, fn14, dg, hnl, hall⟩
          have hnum : ∀ x w', kv x = some w' → ∃ e, valV nk (.inr x) = some (.int e) ∧ Rng w'.toNat e := fun x w' hx => by
            have h1 := kw.1 x
            rw [hx] at h1
            have h1 : valV kvs (.inr x) = some (.int w') := h1
            unfold valV at h1
            obtain ⟨pq, hpq, e2⟩ := Option.map_eq_some_iff.mp h1
            have hm := List.mem_of_find?_eq_some hpq
            have hk : pq.1 = .inr x := by have := List.find?_some hpq; exact of_decide_eq_true this
            obtain ⟨m', hm', em⟩ := List.getElem_of_mem hm
            obtain ⟨e, h3, h4⟩ := hall m' pq hm' (by rw [List.getElem?_eq_getElem hm', em])
            rw [hk] at h3
            exact ⟨e, h3, h4 w' e2⟩
          obtain ⟨vv, hM⟩ := tp.mr kw hnum
          have dw : DG kvs := ⟨fun kvp h => by obtain ⟨x', i', e', _⟩ := gd.1 kvp h; exact ⟨i', by rw [e']⟩, gd.2.1⟩
          refine ⟨_, rfl, _, rfl, _, rfl, dd, v, wd, nd, kvs, nk, _, vv, rfl, hD14, .inr ⟨o, fw14⟩, .inl fn14, hM, dw, dg, fun H15 s15 => ⟨_, rfl, ?_⟩⟩
          refine ite_f rfl ?_
          exact ⟨_, _, _, rfl, g14.trans (g14.2.same s15), s15 _ _ fw14, hD14.same s15⟩
      · rintro σ H12 ⟨y4, y7, y8, rfl, g12, _⟩
        exact ⟨_, _, _, _, _, _, _, _, rfl, Bg.same hlH s2 g12⟩
  · rintro σ H1 ⟨x1, x2, x3, x4, x5, x6, x7, x8, rfl, s1⟩
    exact q _
end
theorem meas_all {P : Program} {w : World} {K : PySem.W.Frag} {mg : Str → Option Value} {base : Heap} {A : Ad} (T : Tx w K mg A) (G_two_to : FnOk P w K mg base CX0 1 A.a_two_to A.d_two_to ["many"] sp_two_to) (G_sayings_in : FnOk P w K mg base CX0 1 A.a_sayings_in A.d_sayings_in ["saying"] sp_sayings_in) (G_width_over : FnOk P w K mg base CX0 2 A.a_width_over A.d_width_over ["saying", "inner"] sp_width_over) (G_worth_of_one : FnOk P w K mg base CX0 2 A.a_worth_of_one A.d_worth_of_one ["saying", "width", "a"] sp_of_one) (G_worth_of_two : FnOk P w K mg base CX0 2 A.a_worth_of_two A.d_worth_of_two ["word", "width", "a", "b"] sp_of_two) : ∀ n, FnOk P w K mg base CX0 (n + 2) A.a_measured A.d_measured ["saying", "widths", "numbers"] (sp_meas n)
  | 0 => fn_none fun vs H Q E h => by
    obtain ⟨d, v, wd, nd, wk, nk, w, x, _, _, _, _, hM, _⟩ := h
    exact hM
  | n + 1 => (ok_measured T G_two_to G_sayings_in G_width_over G_worth_of_one G_worth_of_two n (meas_all T G_two_to G_sayings_in G_width_over G_worth_of_one G_worth_of_two n))
theorem typed_all {P : Program} {w : World} {K : PySem.W.Frag} {mg : Str → Option Value} {base : Heap} {A : Ad} (T : Tx w K mg A) (G_L_take : FnOk P w K mg base CX0 1 A.a_L_take A.d_L_take ["_law_bag_here", "_law_many"] sp_L_take) (G_L_leaf : FnOk P w K mg base CX0 2 A.a_L_leaf A.d_L_leaf ["_law_bag_here", "_law_widths", "_law_width"] sp_L_leaf) (G_L_wants : FnOk P w K mg base CX0 2 A.a_L_wants A.d_L_wants ["_law_bag_here", "_law_word", "_law_width"] sp_L_wants) (G_L_rooms : FnOk P w K mg base CX0 2 A.a_L_rooms A.d_L_rooms ["_law_bag_here", "_law_room", "_law_many"] sp_L_rooms) : ∀ n, FnOk P w K mg base CX0 (n + 2) A.a_L_typed A.d_L_typed ["_law_bag_here", "_law_widths", "_law_width", "_law_deep", "_law_room"] (sp_typed n)
  | 0 => fn_none fun vs H Q E h => by
    obtain ⟨_, _, _, _, _, _, _, _, h1, _⟩ := h
    omega
  | n + 1 => ok_L_typed T G_L_take G_L_leaf G_L_wants G_L_rooms n (typed_all T G_L_take G_L_leaf G_L_wants G_L_rooms n)
theorem lw_all {P : Program} {w : World} {K : PySem.W.Frag} {mg : Str → Option Value} {base : Heap} {A : Ad} (T : Tx w K mg A) (G_L_row : FnOk P w K mg base CX0 1 A.a_L_row A.d_L_row ["_law_number", "_law_width"] sp_L_row) (G_L_of_two : FnOk P w K mg base CX0 2 A.a_L_of_two A.d_L_of_two ["_law_word", "_law_one", "_law_other"] sp_L_of_two) : ∀ n, FnOk P w K mg base CX0 (n + 2) A.a_L_worth A.d_L_worth ["_law_saying", "_law_widths", "_law_numbers"] (sp_lw n)
  | 0 => fn_none fun vs H Q E h => by
    obtain ⟨_, _, _, _, _, _, _, _, _, _, _, _, h1, _⟩ := h
    exact h1
  | n + 1 => ok_L_worth T G_L_row G_L_of_two n (lw_all T G_L_row G_L_of_two n)


theorem all_ok {P : Program} {w : World} {K : PySem.W.Frag} {mg : Str → Option Value} {base : Heap} {A : Ad} (T : Tx w K mg A) : FnOk P w K mg base CX0 12 A.a_law A.d_law ["_law_script"] (sp_law K) := by
  have G_two_to := ok_two_to (P := P) (base := base) T
  have G_sayings_in := ok_sayings_in (P := P) (base := base) T
  have G_width_over := ok_width_over (P := P) (base := base) T G_two_to
  have G_worth_of_two := ok_worth_of_two (P := P) (base := base) T G_two_to
  have G_worth_of_one := ok_worth_of_one (P := P) (base := base) T G_two_to
  have G_measured := (meas_all (P := P) (base := base) T G_two_to G_sayings_in G_width_over G_worth_of_one G_worth_of_two 6).mono (show 8 ≤ 9 by decide)
  have G_worth := ok_worth (P := P) (base := base) T G_measured
  have G_L_bag := ok_L_bag (P := P) (base := base) T
  have G_L_take := ok_L_take (P := P) (base := base) T
  have G_L_names := ok_L_names (P := P) (base := base) T G_L_take
  have G_L_rooms := ok_L_rooms (P := P) (base := base) T G_L_take
  have G_L_leaf := ok_L_leaf (P := P) (base := base) T G_L_take
  have G_L_wants := ok_L_wants (P := P) (base := base) T G_L_take
  have G_L_typed := (typed_all (P := P) (base := base) T G_L_take G_L_leaf G_L_wants G_L_rooms 6).mono (show 8 ≤ 9 by decide)
  have G_L_row := ok_L_row (P := P) (base := base) T
  have G_L_summed := ok_L_summed (P := P) (base := base) T
  have G_L_of_two := ok_L_of_two (P := P) (base := base) T G_L_summed
  have G_L_worth := (lw_all (P := P) (base := base) T G_L_row G_L_of_two 6).mono (show 8 ≤ 9 by decide)
  have G_L_good := ok_L_good (P := P) (base := base) T G_worth G_L_worth
  exact ok_law T G_L_bag G_L_names G_L_typed G_L_take G_L_good
theorem all_mk {w : World} {K : PySem.W.Frag} {h : Heap} {mg : Str → Option Value} {fa : Addr} (X : K.In h) (G : h.Ns mainGlobals mg) (hfa : mg "law" = some (.ref fa))
    {f0 f1 f2 f3 f4 f5 f6 f7 f8 f9 f10 f11 f12 f13 f14 f15 f16 f17 f18 f19 : Addr} {od0 an0 od1 an1 od2 an2 od3 an3 od4 an4 od5 an5 od6 an6 od7 an7 od8 an8 od9 an9 od10 an10 od11 an11 od12 an12 od13 an13 od14 an14 od15 an15 od16 an16 od17 an17 od18 an18 od19 an19 : Option Addr} {sl0 sl1 sl2 sl3 sl4 sl5 sl6 sl7 sl8 sl9 sl10 sl11 sl12 sl13 sl14 sl15 sl16 sl17 sl18 sl19 : Array (Option Value)} {oc0 kV0 dc0 pm0 cd0 ct0 oc1 kV1 dc1 pm1 cd1 ct1 oc2 kV2 dc2 pm2 cd2 ct2 oc3 kV3 dc3 pm3 cd3 ct3 oc4 kV4 dc4 pm4 cd4 ct4 oc5 kV5 dc5 pm5 cd5 ct5 oc6 kV6 dc6 pm6 cd6 ct6 oc7 kV7 dc7 pm7 cd7 ct7 oc8 kV8 dc8 pm8 cd8 ct8 oc9 kV9 dc9 pm9 cd9 ct9 oc10 kV10 dc10 pm10 cd10 ct10 oc11 kV11 dc11 pm11 cd11 ct11 oc12 kV12 dc12 pm12 cd12 ct12 oc13 kV13 dc13 pm13 cd13 ct13 oc14 kV14 dc14 pm14 cd14 ct14 oc15 kV15 dc15 pm15 cd15 ct15 oc16 kV16 dc16 pm16 cd16 ct16 oc17 kV17 dc17 pm17 cd17 ct17 oc18 kV18 dc18 pm18 cd18 ct18 oc19 kV19 dc19 pm19 cd19 ct19 : Value}
    (a0 : PySem.W.nsIn K mainGlobals "two_to" = some (some (.ref f0))) (l0 : K.lookup f0 = some ⟨oc0, od0, .func (PySem.W.fnOf "two_to" "two_to" (defArgs s_two_to) (defBody s_two_to) (defScope s_two_to) .none kV0 dc0 pm0 an0 cd0 ct0), sl0⟩) (c0 : PySem.W.codeIn K cd0 "two_to" = true) (k0 : PySem.W.keepIn K (.ref f0) = true)
    (a1 : PySem.W.nsIn K mainGlobals "sayings_in" = some (some (.ref f1))) (l1 : K.lookup f1 = some ⟨oc1, od1, .func (PySem.W.fnOf "sayings_in" "sayings_in" (defArgs s_sayings_in) (defBody s_sayings_in) (defScope s_sayings_in) .none kV1 dc1 pm1 an1 cd1 ct1), sl1⟩) (c1 : PySem.W.codeIn K cd1 "sayings_in" = true) (k1 : PySem.W.keepIn K (.ref f1) = true)
    (a2 : PySem.W.nsIn K mainGlobals "width_over" = some (some (.ref f2))) (l2 : K.lookup f2 = some ⟨oc2, od2, .func (PySem.W.fnOf "width_over" "width_over" (defArgs s_width_over) (defBody s_width_over) (defScope s_width_over) .none kV2 dc2 pm2 an2 cd2 ct2), sl2⟩) (c2 : PySem.W.codeIn K cd2 "width_over" = true) (k2 : PySem.W.keepIn K (.ref f2) = true)
    (a3 : PySem.W.nsIn K mainGlobals "worth" = some (some (.ref f3))) (l3 : K.lookup f3 = some ⟨oc3, od3, .func (PySem.W.fnOf "worth" "worth" (defArgs s_worth) (defBody s_worth) (defScope s_worth) .none kV3 dc3 pm3 an3 cd3 ct3), sl3⟩) (c3 : PySem.W.codeIn K cd3 "worth" = true) (k3 : PySem.W.keepIn K (.ref f3) = true)
    (a4 : PySem.W.nsIn K mainGlobals "measured" = some (some (.ref f4))) (l4 : K.lookup f4 = some ⟨oc4, od4, .func (PySem.W.fnOf "measured" "measured" (defArgs s_measured) (defBody s_measured) (defScope s_measured) .none kV4 dc4 pm4 an4 cd4 ct4), sl4⟩) (c4 : PySem.W.codeIn K cd4 "measured" = true) (k4 : PySem.W.keepIn K (.ref f4) = true)
    (a5 : PySem.W.nsIn K mainGlobals "worth_of_one" = some (some (.ref f5))) (l5 : K.lookup f5 = some ⟨oc5, od5, .func (PySem.W.fnOf "worth_of_one" "worth_of_one" (defArgs s_worth_of_one) (defBody s_worth_of_one) (defScope s_worth_of_one) .none kV5 dc5 pm5 an5 cd5 ct5), sl5⟩) (c5 : PySem.W.codeIn K cd5 "worth_of_one" = true) (k5 : PySem.W.keepIn K (.ref f5) = true)
    (a6 : PySem.W.nsIn K mainGlobals "worth_of_two" = some (some (.ref f6))) (l6 : K.lookup f6 = some ⟨oc6, od6, .func (PySem.W.fnOf "worth_of_two" "worth_of_two" (defArgs s_worth_of_two) (defBody s_worth_of_two) (defScope s_worth_of_two) .none kV6 dc6 pm6 an6 cd6 ct6), sl6⟩) (c6 : PySem.W.codeIn K cd6 "worth_of_two" = true) (k6 : PySem.W.keepIn K (.ref f6) = true)
    (a7 : PySem.W.nsIn K mainGlobals "_law_bag" = some (some (.ref f7))) (l7 : K.lookup f7 = some ⟨oc7, od7, .func (PySem.W.fnOf "_law_bag" "_law_bag" (defArgs s_L_bag) (defBody s_L_bag) (defScope s_L_bag) .none kV7 dc7 pm7 an7 cd7 ct7), sl7⟩) (c7 : PySem.W.codeIn K cd7 "_law_bag" = true) (k7 : PySem.W.keepIn K (.ref f7) = true)
    (a8 : PySem.W.nsIn K mainGlobals "_law_take" = some (some (.ref f8))) (l8 : K.lookup f8 = some ⟨oc8, od8, .func (PySem.W.fnOf "_law_take" "_law_take" (defArgs s_L_take) (defBody s_L_take) (defScope s_L_take) .none kV8 dc8 pm8 an8 cd8 ct8), sl8⟩) (c8 : PySem.W.codeIn K cd8 "_law_take" = true) (k8 : PySem.W.keepIn K (.ref f8) = true)
    (a9 : PySem.W.nsIn K mainGlobals "_law_names" = some (some (.ref f9))) (l9 : K.lookup f9 = some ⟨oc9, od9, .func (PySem.W.fnOf "_law_names" "_law_names" (defArgs s_L_names) (defBody s_L_names) (defScope s_L_names) .none kV9 dc9 pm9 an9 cd9 ct9), sl9⟩) (c9 : PySem.W.codeIn K cd9 "_law_names" = true) (k9 : PySem.W.keepIn K (.ref f9) = true)
    (a10 : PySem.W.nsIn K mainGlobals "_law_rooms" = some (some (.ref f10))) (l10 : K.lookup f10 = some ⟨oc10, od10, .func (PySem.W.fnOf "_law_rooms" "_law_rooms" (defArgs s_L_rooms) (defBody s_L_rooms) (defScope s_L_rooms) .none kV10 dc10 pm10 an10 cd10 ct10), sl10⟩) (c10 : PySem.W.codeIn K cd10 "_law_rooms" = true) (k10 : PySem.W.keepIn K (.ref f10) = true)
    (a11 : PySem.W.nsIn K mainGlobals "_law_leaf" = some (some (.ref f11))) (l11 : K.lookup f11 = some ⟨oc11, od11, .func (PySem.W.fnOf "_law_leaf" "_law_leaf" (defArgs s_L_leaf) (defBody s_L_leaf) (defScope s_L_leaf) .none kV11 dc11 pm11 an11 cd11 ct11), sl11⟩) (c11 : PySem.W.codeIn K cd11 "_law_leaf" = true) (k11 : PySem.W.keepIn K (.ref f11) = true)
    (a12 : PySem.W.nsIn K mainGlobals "_law_wants" = some (some (.ref f12))) (l12 : K.lookup f12 = some ⟨oc12, od12, .func (PySem.W.fnOf "_law_wants" "_law_wants" (defArgs s_L_wants) (defBody s_L_wants) (defScope s_L_wants) .none kV12 dc12 pm12 an12 cd12 ct12), sl12⟩) (c12 : PySem.W.codeIn K cd12 "_law_wants" = true) (k12 : PySem.W.keepIn K (.ref f12) = true)
    (a13 : PySem.W.nsIn K mainGlobals "_law_typed" = some (some (.ref f13))) (l13 : K.lookup f13 = some ⟨oc13, od13, .func (PySem.W.fnOf "_law_typed" "_law_typed" (defArgs s_L_typed) (defBody s_L_typed) (defScope s_L_typed) .none kV13 dc13 pm13 an13 cd13 ct13), sl13⟩) (c13 : PySem.W.codeIn K cd13 "_law_typed" = true) (k13 : PySem.W.keepIn K (.ref f13) = true)
    (a14 : PySem.W.nsIn K mainGlobals "_law_row" = some (some (.ref f14))) (l14 : K.lookup f14 = some ⟨oc14, od14, .func (PySem.W.fnOf "_law_row" "_law_row" (defArgs s_L_row) (defBody s_L_row) (defScope s_L_row) .none kV14 dc14 pm14 an14 cd14 ct14), sl14⟩) (c14 : PySem.W.codeIn K cd14 "_law_row" = true) (k14 : PySem.W.keepIn K (.ref f14) = true)
    (a15 : PySem.W.nsIn K mainGlobals "_law_summed" = some (some (.ref f15))) (l15 : K.lookup f15 = some ⟨oc15, od15, .func (PySem.W.fnOf "_law_summed" "_law_summed" (defArgs s_L_summed) (defBody s_L_summed) (defScope s_L_summed) .none kV15 dc15 pm15 an15 cd15 ct15), sl15⟩) (c15 : PySem.W.codeIn K cd15 "_law_summed" = true) (k15 : PySem.W.keepIn K (.ref f15) = true)
    (a16 : PySem.W.nsIn K mainGlobals "_law_of_two" = some (some (.ref f16))) (l16 : K.lookup f16 = some ⟨oc16, od16, .func (PySem.W.fnOf "_law_of_two" "_law_of_two" (defArgs s_L_of_two) (defBody s_L_of_two) (defScope s_L_of_two) .none kV16 dc16 pm16 an16 cd16 ct16), sl16⟩) (c16 : PySem.W.codeIn K cd16 "_law_of_two" = true) (k16 : PySem.W.keepIn K (.ref f16) = true)
    (a17 : PySem.W.nsIn K mainGlobals "_law_worth" = some (some (.ref f17))) (l17 : K.lookup f17 = some ⟨oc17, od17, .func (PySem.W.fnOf "_law_worth" "_law_worth" (defArgs s_L_worth) (defBody s_L_worth) (defScope s_L_worth) .none kV17 dc17 pm17 an17 cd17 ct17), sl17⟩) (c17 : PySem.W.codeIn K cd17 "_law_worth" = true) (k17 : PySem.W.keepIn K (.ref f17) = true)
    (a18 : PySem.W.nsIn K mainGlobals "_law_good" = some (some (.ref f18))) (l18 : K.lookup f18 = some ⟨oc18, od18, .func (PySem.W.fnOf "_law_good" "_law_good" (defArgs s_L_good) (defBody s_L_good) (defScope s_L_good) .none kV18 dc18 pm18 an18 cd18 ct18), sl18⟩) (c18 : PySem.W.codeIn K cd18 "_law_good" = true) (k18 : PySem.W.keepIn K (.ref f18) = true)
    (a19 : PySem.W.nsIn K mainGlobals "law" = some (some (.ref f19))) (l19 : K.lookup f19 = some ⟨oc19, od19, .func (PySem.W.fnOf "law" "law" (defArgs s_law) (defBody s_law) (defScope s_law) .none kV19 dc19 pm19 an19 cd19 ct19), sl19⟩) (c19 : PySem.W.codeIn K cd19 "law" = true) (k19 : PySem.W.keepIn K (.ref f19) = true)
    (z0 : PySem.W.nsIn K mainGlobals "abs" = some none)
    (z1 : PySem.W.nsIn K mainGlobals "bool" = some none)
    (z2 : PySem.W.nsIn K mainGlobals "dict" = some none)
    (z3 : PySem.W.nsIn K mainGlobals "int" = some none)
    (z4 : PySem.W.nsIn K mainGlobals "isinstance" = some none)
    (z5 : PySem.W.nsIn K mainGlobals "len" = some none)
    (z6 : PySem.W.nsIn K mainGlobals "max" = some none)
    (z7 : PySem.W.nsIn K mainGlobals "min" = some none)
    (z8 : PySem.W.nsIn K mainGlobals "range" = some none)
    (z9 : PySem.W.nsIn K mainGlobals "str" = some none)
    (z10 : PySem.W.nsIn K mainGlobals "sum" = some none)
    (z11 : PySem.W.nsIn K mainGlobals "tuple" = some none)
    (z12 : PySem.W.nsIn K mainGlobals "zip" = some none)
    {t_MOST_WIDTH : Tok} (g_MOST_WIDTH : PySem.W.nsIn K mainGlobals "MOST_WIDTH" = some (some (.int 8 t_MOST_WIDTH)))
    {d_FORMS : Addr} (g_FORMS : PySem.W.nsIn K mainGlobals "FORMS" = some (some (.ref d_FORMS)))
    {es : Array DictEntry} {n_F : Nat} (l_FORMS : K.lookup d_FORMS = some ⟨.type "dict", none, .dict es n_F, #[]⟩) (kF : PySem.W.KeysLit w.params es.toList) (lo_F : (d_FORMS == sysModules) = false) {h0 h1 h2 h3 h4 h5 h6 h7 h8 h9 h10 h11 h12 h13 h14 h15 : Int} {t0 t1 t2 t3 t4 t5 t6 t7 t8 t9 t10 t11 t12 t13 t14 t15 : Tok} {p0 p1 p2 p3 p4 p5 p6 p7 p8 p9 p10 p11 p12 p13 p14 p15 : Addr} (eF : es.toList = [⟨h0, .str "wire" t0, .ref p0⟩, ⟨h1, .str "number" t1, .ref p1⟩, ⟨h2, .str "not" t2, .ref p2⟩, ⟨h3, .str "and" t3, .ref p3⟩, ⟨h4, .str "or" t4, .ref p4⟩, ⟨h5, .str "odd" t5, .ref p5⟩, ⟨h6, .str "sum" t6, .ref p6⟩, ⟨h7, .str "less" t7, .ref p7⟩, ⟨h8, .str "under" t8, .ref p8⟩, ⟨h9, .str "same" t9, .ref p9⟩, ⟨h10, .str "choice" t10, .ref p10⟩, ⟨h11, .str "up" t11, .ref p11⟩, ⟨h12, .str "down" t12, .ref p12⟩, ⟨h13, .str "join" t13, .ref p13⟩, ⟨h14, .str "cut" t14, .ref p14⟩, ⟨h15, .str "table" t15, .ref p15⟩]) {uF0 : Option Addr} {nF0 : Nat} {wF0 : Array (Option Value)} {xF0 yF0 : Tok} (lF0 : K.lookup p0 = some ⟨.type "tuple", uF0, .seq #[.int 2 xF0, .int 2 yF0] nF0, wF0⟩) {uF1 : Option Addr} {nF1 : Nat} {wF1 : Array (Option Value)} {xF1 yF1 : Tok} (lF1 : K.lookup p1 = some ⟨.type "tuple", uF1, .seq #[.int 3 xF1, .int 3 yF1] nF1, wF1⟩) {uF2 : Option Addr} {nF2 : Nat} {wF2 : Array (Option Value)} {xF2 yF2 : Tok} (lF2 : K.lookup p2 = some ⟨.type "tuple", uF2, .seq #[.int 2 xF2, .int 1 yF2] nF2, wF2⟩) {uF3 : Option Addr} {nF3 : Nat} {wF3 : Array (Option Value)} {xF3 yF3 : Tok} (lF3 : K.lookup p3 = some ⟨.type "tuple", uF3, .seq #[.int 3 xF3, .int 1 yF3] nF3, wF3⟩) {uF4 : Option Addr} {nF4 : Nat} {wF4 : Array (Option Value)} {xF4 yF4 : Tok} (lF4 : K.lookup p4 = some ⟨.type "tuple", uF4, .seq #[.int 3 xF4, .int 1 yF4] nF4, wF4⟩) {uF5 : Option Addr} {nF5 : Nat} {wF5 : Array (Option Value)} {xF5 yF5 : Tok} (lF5 : K.lookup p5 = some ⟨.type "tuple", uF5, .seq #[.int 3 xF5, .int 1 yF5] nF5, wF5⟩) {uF6 : Option Addr} {nF6 : Nat} {wF6 : Array (Option Value)} {xF6 yF6 : Tok} (lF6 : K.lookup p6 = some ⟨.type "tuple", uF6, .seq #[.int 3 xF6, .int 1 yF6] nF6, wF6⟩) {uF7 : Option Addr} {nF7 : Nat} {wF7 : Array (Option Value)} {xF7 yF7 : Tok} (lF7 : K.lookup p7 = some ⟨.type "tuple", uF7, .seq #[.int 3 xF7, .int 1 yF7] nF7, wF7⟩) {uF8 : Option Addr} {nF8 : Nat} {wF8 : Array (Option Value)} {xF8 yF8 : Tok} (lF8 : K.lookup p8 = some ⟨.type "tuple", uF8, .seq #[.int 3 xF8, .int 1 yF8] nF8, wF8⟩) {uF9 : Option Addr} {nF9 : Nat} {wF9 : Array (Option Value)} {xF9 yF9 : Tok} (lF9 : K.lookup p9 = some ⟨.type "tuple", uF9, .seq #[.int 3 xF9, .int 1 yF9] nF9, wF9⟩) {uF10 : Option Addr} {nF10 : Nat} {wF10 : Array (Option Value)} {xF10 yF10 : Tok} (lF10 : K.lookup p10 = some ⟨.type "tuple", uF10, .seq #[.int 4 xF10, .int 1 yF10] nF10, wF10⟩) {uF11 : Option Addr} {nF11 : Nat} {wF11 : Array (Option Value)} {xF11 yF11 : Tok} (lF11 : K.lookup p11 = some ⟨.type "tuple", uF11, .seq #[.int 3 xF11, .int 2 yF11] nF11, wF11⟩) {uF12 : Option Addr} {nF12 : Nat} {wF12 : Array (Option Value)} {xF12 yF12 : Tok} (lF12 : K.lookup p12 = some ⟨.type "tuple", uF12, .seq #[.int 3 xF12, .int 2 yF12] nF12, wF12⟩) {uF13 : Option Addr} {nF13 : Nat} {wF13 : Array (Option Value)} {xF13 yF13 : Tok} (lF13 : K.lookup p13 = some ⟨.type "tuple", uF13, .seq #[.int 3 xF13, .int 1 yF13] nF13, wF13⟩) {uF14 : Option Addr} {nF14 : Nat} {wF14 : Array (Option Value)} {xF14 yF14 : Tok} (lF14 : K.lookup p14 = some ⟨.type "tuple", uF14, .seq #[.int 4 xF14, .int 3 yF14] nF14, wF14⟩) {uF15 : Option Addr} {nF15 : Nat} {wF15 : Array (Option Value)} {xF15 yF15 : Tok} (lF15 : K.lookup p15 = some ⟨.type "tuple", uF15, .seq #[.int 4 xF15, .int 3 yF15] nF15, wF15⟩)
    {t_MOST_TABLE_WIDTH : Tok} (g_MOST_TABLE_WIDTH : PySem.W.nsIn K mainGlobals "MOST_TABLE_WIDTH" = some (some (.int 4 t_MOST_TABLE_WIDTH)))
    : ∃ A : Ad, A.a_law = fa ∧ (∀ (s : Shared) (v : Value), BindsTo s A.d_law ⟨[v], []⟩ [("_law_script", v)]) ∧ Tx w K mg A := by
  have e := hfa.symm.trans (PySem.W.mg_of X G a19)
  cases e
  have F0 := fun_mk (st := s_two_to) l0 c0 k0
  have F1 := fun_mk (st := s_sayings_in) l1 c1 k1
  have F2 := fun_mk (st := s_width_over) l2 c2 k2
  have F3 := fun_mk (st := s_worth) l3 c3 k3
  have F4 := fun_mk (st := s_measured) l4 c4 k4
  have F5 := fun_mk (st := s_worth_of_one) l5 c5 k5
  have F6 := fun_mk (st := s_worth_of_two) l6 c6 k6
  have F7 := fun_mk (st := s_L_bag) l7 c7 k7
  have F8 := fun_mk (st := s_L_take) l8 c8 k8
  have F9 := fun_mk (st := s_L_names) l9 c9 k9
  have F10 := fun_mk (st := s_L_rooms) l10 c10 k10
  have F11 := fun_mk (st := s_L_leaf) l11 c11 k11
  have F12 := fun_mk (st := s_L_wants) l12 c12 k12
  have F13 := fun_mk (st := s_L_typed) l13 c13 k13
  have F14 := fun_mk (st := s_L_row) l14 c14 k14
  have F15 := fun_mk (st := s_L_summed) l15 c15 k15
  have F16 := fun_mk (st := s_L_of_two) l16 c16 k16
  have F17 := fun_mk (st := s_L_worth) l17 c17 k17
  have F18 := fun_mk (st := s_L_good) l18 c18 k18
  have F19 := fun_mk (st := s_law) l19 c19 k19
  refine ⟨⟨f0, PySem.W.fnOf "two_to" "two_to" (defArgs s_two_to) (defBody s_two_to) (defScope s_two_to) .none kV0 dc0 pm0 an0 cd0 ct0, f1, PySem.W.fnOf "sayings_in" "sayings_in" (defArgs s_sayings_in) (defBody s_sayings_in) (defScope s_sayings_in) .none kV1 dc1 pm1 an1 cd1 ct1, f2, PySem.W.fnOf "width_over" "width_over" (defArgs s_width_over) (defBody s_width_over) (defScope s_width_over) .none kV2 dc2 pm2 an2 cd2 ct2, f3, PySem.W.fnOf "worth" "worth" (defArgs s_worth) (defBody s_worth) (defScope s_worth) .none kV3 dc3 pm3 an3 cd3 ct3, f4, PySem.W.fnOf "measured" "measured" (defArgs s_measured) (defBody s_measured) (defScope s_measured) .none kV4 dc4 pm4 an4 cd4 ct4, f5, PySem.W.fnOf "worth_of_one" "worth_of_one" (defArgs s_worth_of_one) (defBody s_worth_of_one) (defScope s_worth_of_one) .none kV5 dc5 pm5 an5 cd5 ct5, f6, PySem.W.fnOf "worth_of_two" "worth_of_two" (defArgs s_worth_of_two) (defBody s_worth_of_two) (defScope s_worth_of_two) .none kV6 dc6 pm6 an6 cd6 ct6, f7, PySem.W.fnOf "_law_bag" "_law_bag" (defArgs s_L_bag) (defBody s_L_bag) (defScope s_L_bag) .none kV7 dc7 pm7 an7 cd7 ct7, f8, PySem.W.fnOf "_law_take" "_law_take" (defArgs s_L_take) (defBody s_L_take) (defScope s_L_take) .none kV8 dc8 pm8 an8 cd8 ct8, f9, PySem.W.fnOf "_law_names" "_law_names" (defArgs s_L_names) (defBody s_L_names) (defScope s_L_names) .none kV9 dc9 pm9 an9 cd9 ct9, f10, PySem.W.fnOf "_law_rooms" "_law_rooms" (defArgs s_L_rooms) (defBody s_L_rooms) (defScope s_L_rooms) .none kV10 dc10 pm10 an10 cd10 ct10, f11, PySem.W.fnOf "_law_leaf" "_law_leaf" (defArgs s_L_leaf) (defBody s_L_leaf) (defScope s_L_leaf) .none kV11 dc11 pm11 an11 cd11 ct11, f12, PySem.W.fnOf "_law_wants" "_law_wants" (defArgs s_L_wants) (defBody s_L_wants) (defScope s_L_wants) .none kV12 dc12 pm12 an12 cd12 ct12, f13, PySem.W.fnOf "_law_typed" "_law_typed" (defArgs s_L_typed) (defBody s_L_typed) (defScope s_L_typed) .none kV13 dc13 pm13 an13 cd13 ct13, f14, PySem.W.fnOf "_law_row" "_law_row" (defArgs s_L_row) (defBody s_L_row) (defScope s_L_row) .none kV14 dc14 pm14 an14 cd14 ct14, f15, PySem.W.fnOf "_law_summed" "_law_summed" (defArgs s_L_summed) (defBody s_L_summed) (defScope s_L_summed) .none kV15 dc15 pm15 an15 cd15 ct15, f16, PySem.W.fnOf "_law_of_two" "_law_of_two" (defArgs s_L_of_two) (defBody s_L_of_two) (defScope s_L_of_two) .none kV16 dc16 pm16 an16 cd16 ct16, f17, PySem.W.fnOf "_law_worth" "_law_worth" (defArgs s_L_worth) (defBody s_L_worth) (defScope s_L_worth) .none kV17 dc17 pm17 an17 cd17 ct17, f18, PySem.W.fnOf "_law_good" "_law_good" (defArgs s_L_good) (defBody s_L_good) (defScope s_L_good) .none kV18 dc18 pm18 an18 cd18 ct18, fa, PySem.W.fnOf "law" "law" (defArgs s_law) (defBody s_law) (defScope s_law) .none kV19 dc19 pm19 an19 cd19 ct19, d_FORMS⟩, rfl, fun s v => .of_eq rfl, ?_⟩
  exact ⟨PySem.W.mg_none_of X G z0, PySem.W.mg_none_of X G z1, PySem.W.mg_none_of X G z2, PySem.W.mg_none_of X G z3, PySem.W.mg_none_of X G z4, PySem.W.mg_none_of X G z5, PySem.W.mg_none_of X G z6, PySem.W.mg_none_of X G z7, PySem.W.mg_none_of X G z8, PySem.W.mg_none_of X G z9, PySem.W.mg_none_of X G z10, PySem.W.mg_none_of X G z11, PySem.W.mg_none_of X G z12, ⟨_, PySem.W.mg_of X G g_MOST_WIDTH⟩, PySem.W.mg_of X G g_FORMS, ⟨[("wire", .ref p0), ("number", .ref p1), ("not", .ref p2), ("and", .ref p3), ("or", .ref p4), ("odd", .ref p5), ("sum", .ref p6), ("less", .ref p7), ("under", .ref p8), ("same", .ref p9), ("choice", .ref p10), ("up", .ref p11), ("down", .ref p12), ("join", .ref p13), ("cut", .ref p14), ("table", .ref p15)], ⟨⟨es, n_F, l_FORMS, kF, by rw [eF]; repeat (first | exact .nil | refine .cons ⟨⟨_, rfl⟩, rfl⟩ ?_)⟩, lo_F⟩, fun z hz => by
    simp only [words, List.mem_cons, List.not_mem_nil, or_false] at hz
    rcases hz with rfl | rfl | rfl | rfl | rfl | rfl | rfl | rfl | rfl | rfl | rfl | rfl | rfl | rfl | rfl | rfl
    · exact ⟨p0, rfl, fun H => .inr ⟨_, _, _, lF0, rfl, rfl, (by show 2 ≤ sizeLine; decide), .cons ⟨_, rfl⟩ (.cons ⟨_, rfl⟩ .nil)⟩⟩
    · exact ⟨p1, rfl, fun H => .inr ⟨_, _, _, lF1, rfl, rfl, (by show 2 ≤ sizeLine; decide), .cons ⟨_, rfl⟩ (.cons ⟨_, rfl⟩ .nil)⟩⟩
    · exact ⟨p2, rfl, fun H => .inr ⟨_, _, _, lF2, rfl, rfl, (by show 2 ≤ sizeLine; decide), .cons ⟨_, rfl⟩ (.cons ⟨_, rfl⟩ .nil)⟩⟩
    · exact ⟨p3, rfl, fun H => .inr ⟨_, _, _, lF3, rfl, rfl, (by show 2 ≤ sizeLine; decide), .cons ⟨_, rfl⟩ (.cons ⟨_, rfl⟩ .nil)⟩⟩
    · exact ⟨p4, rfl, fun H => .inr ⟨_, _, _, lF4, rfl, rfl, (by show 2 ≤ sizeLine; decide), .cons ⟨_, rfl⟩ (.cons ⟨_, rfl⟩ .nil)⟩⟩
    · exact ⟨p5, rfl, fun H => .inr ⟨_, _, _, lF5, rfl, rfl, (by show 2 ≤ sizeLine; decide), .cons ⟨_, rfl⟩ (.cons ⟨_, rfl⟩ .nil)⟩⟩
    · exact ⟨p6, rfl, fun H => .inr ⟨_, _, _, lF6, rfl, rfl, (by show 2 ≤ sizeLine; decide), .cons ⟨_, rfl⟩ (.cons ⟨_, rfl⟩ .nil)⟩⟩
    · exact ⟨p7, rfl, fun H => .inr ⟨_, _, _, lF7, rfl, rfl, (by show 2 ≤ sizeLine; decide), .cons ⟨_, rfl⟩ (.cons ⟨_, rfl⟩ .nil)⟩⟩
    · exact ⟨p8, rfl, fun H => .inr ⟨_, _, _, lF8, rfl, rfl, (by show 2 ≤ sizeLine; decide), .cons ⟨_, rfl⟩ (.cons ⟨_, rfl⟩ .nil)⟩⟩
    · exact ⟨p9, rfl, fun H => .inr ⟨_, _, _, lF9, rfl, rfl, (by show 2 ≤ sizeLine; decide), .cons ⟨_, rfl⟩ (.cons ⟨_, rfl⟩ .nil)⟩⟩
    · exact ⟨p10, rfl, fun H => .inr ⟨_, _, _, lF10, rfl, rfl, (by show 2 ≤ sizeLine; decide), .cons ⟨_, rfl⟩ (.cons ⟨_, rfl⟩ .nil)⟩⟩
    · exact ⟨p11, rfl, fun H => .inr ⟨_, _, _, lF11, rfl, rfl, (by show 2 ≤ sizeLine; decide), .cons ⟨_, rfl⟩ (.cons ⟨_, rfl⟩ .nil)⟩⟩
    · exact ⟨p12, rfl, fun H => .inr ⟨_, _, _, lF12, rfl, rfl, (by show 2 ≤ sizeLine; decide), .cons ⟨_, rfl⟩ (.cons ⟨_, rfl⟩ .nil)⟩⟩
    · exact ⟨p13, rfl, fun H => .inr ⟨_, _, _, lF13, rfl, rfl, (by show 2 ≤ sizeLine; decide), .cons ⟨_, rfl⟩ (.cons ⟨_, rfl⟩ .nil)⟩⟩
    · exact ⟨p14, rfl, fun H => .inr ⟨_, _, _, lF14, rfl, rfl, (by show 2 ≤ sizeLine; decide), .cons ⟨_, rfl⟩ (.cons ⟨_, rfl⟩ .nil)⟩⟩
    · exact ⟨p15, rfl, fun H => .inr ⟨_, _, _, lF15, rfl, rfl, (by show 2 ≤ sizeLine; decide), .cons ⟨_, rfl⟩ (.cons ⟨_, rfl⟩ .nil)⟩⟩⟩, ⟨_, PySem.W.mg_of X G g_MOST_TABLE_WIDTH⟩, F0, F0.binds fun _ _ _ _ _ _ us hl => match us, hl with | [_], _ => rfl, PySem.W.mg_of X G a0, F1, F1.binds fun _ _ _ _ _ _ us hl => match us, hl with | [_], _ => rfl, PySem.W.mg_of X G a1, F2, F2.binds fun _ _ _ _ _ _ us hl => match us, hl with | [_, _], _ => rfl, PySem.W.mg_of X G a2, F3, F3.binds fun _ _ _ _ _ _ us hl => match us, hl with | [_, _, _], _ => rfl, PySem.W.mg_of X G a3, F4, F4.binds fun _ _ _ _ _ _ us hl => match us, hl with | [_, _, _], _ => rfl, PySem.W.mg_of X G a4, F5, F5.binds fun _ _ _ _ _ _ us hl => match us, hl with | [_, _, _], _ => rfl, PySem.W.mg_of X G a5, F6, F6.binds fun _ _ _ _ _ _ us hl => match us, hl with | [_, _, _, _], _ => rfl, PySem.W.mg_of X G a6, F7, F7.binds fun _ _ _ _ _ _ us hl => match us, hl with | [_, _], _ => rfl, PySem.W.mg_of X G a7, F8, F8.binds fun _ _ _ _ _ _ us hl => match us, hl with | [_, _], _ => rfl, PySem.W.mg_of X G a8, F9, F9.binds fun _ _ _ _ _ _ us hl => match us, hl with | [_], _ => rfl, PySem.W.mg_of X G a9, F10, F10.binds fun _ _ _ _ _ _ us hl => match us, hl with | [_, _, _], _ => rfl, PySem.W.mg_of X G a10, F11, F11.binds fun _ _ _ _ _ _ us hl => match us, hl with | [_, _, _], _ => rfl, PySem.W.mg_of X G a11, F12, F12.binds fun _ _ _ _ _ _ us hl => match us, hl with | [_, _, _], _ => rfl, PySem.W.mg_of X G a12, F13, F13.binds fun _ _ _ _ _ _ us hl => match us, hl with | [_, _, _, _, _], _ => rfl, PySem.W.mg_of X G a13, F14, F14.binds fun _ _ _ _ _ _ us hl => match us, hl with | [_, _], _ => rfl, PySem.W.mg_of X G a14, F15, F15.binds fun _ _ _ _ _ _ us hl => match us, hl with | [_, _, _], _ => rfl, PySem.W.mg_of X G a15, F16, F16.binds fun _ _ _ _ _ _ us hl => match us, hl with | [_, _, _], _ => rfl, PySem.W.mg_of X G a16, F17, F17.binds fun _ _ _ _ _ _ us hl => match us, hl with | [_, _, _], _ => rfl, PySem.W.mg_of X G a17, F18, F18.binds fun _ _ _ _ _ _ us hl => match us, hl with | [_, _, _], _ => rfl, PySem.W.mg_of X G a18, F19, F19.binds fun _ _ _ _ _ _ us hl => match us, hl with | [_], _ => rfl, PySem.W.mg_of X G a19⟩
theorem walk {l : PySem.W.OpenLaw} {q : Program} {loose : List Str} {XP : (Str → Option Value) → Heap → Prop} {YP : World → Heap → Prop} {d : DefRec} {K : Params → PySem.W.Frag} (hn : l.most = some 63) (hdf : d.params.defaults = []) (hnm : d.name = "law")
    (hY : ∀ (w : World) (h : Heap), YP w h → (K w.params).In h)
    (F : ∀ (w : World) (mg : Str → Option Value) (fa : Addr) (h : Heap), (K w.params).In h → h.Ns mainGlobals mg → mg "law" = some (.ref fa) →
      ∃ A : Ad, A.a_law = fa ∧ (∀ (s : Shared) (v : Value), BindsTo s A.d_law ⟨[v], []⟩ [("_law_script", v)]) ∧ Tx w (K w.params) mg A) :
    PySem.W.WalkO q loose XP YP l.row.toRowW d [] (fun f vs => PySem.call f vs) := by
  refine L2.walk_of (n := 63) (k := 12) (x := "_law_script") (CX := fun _ => CX0) (sp := fun w => sp_law (K w.params)) hn (by decide) hdf ⟨rfl, by decide, by decide⟩ hY (fun w mg fa h k1 k2 k3 => ?_) (fun _ _ a ns hl _ hS => ⟨a, ns, rfl, hS, hl, fun _ => rfl⟩) fun _ _ _ _ _ z => z
  obtain ⟨A, rfl, hb, T⟩ := F w mg fa h k1 k2 (by rw [← hnm]; exact k3)
  exact ⟨A.d_law, hb, fun base _ _ => all_ok T⟩
end K05
open PySem PySem.W PyProof.Rows
set_option maxRecDepth 100000 in
set_option maxHeartbeats 0 in
theorem PySem.Challenge.cw_lampforge_k05_worths_holds : PySem.Challenge.rw_lampforge_k05_worths.Holds := by
  w_on; o_law; k_head; (case hw => w_witness2)
  k_fill
  refine K05.walk (l := PySem.Challenge.rw_lampforge_k05_worths) rfl rfl rfl (fun w h Y => PySem.W.kIn_of Y) ?F
  case F =>
    intro w mg fa h KX G hmg
    refine' K05.all_mk KX G hmg ?a0 ?l0 ?c0 ?k0 ?a1 ?l1 ?c1 ?k1 ?a2 ?l2 ?c2 ?k2 ?a3 ?l3 ?c3 ?k3 ?a4 ?l4 ?c4 ?k4 ?a5 ?l5 ?c5 ?k5 ?a6 ?l6 ?c6 ?k6 ?a7 ?l7 ?c7 ?k7 ?a8 ?l8 ?c8 ?k8 ?a9 ?l9 ?c9 ?k9 ?a10 ?l10 ?c10 ?k10 ?a11 ?l11 ?c11 ?k11 ?a12 ?l12 ?c12 ?k12 ?a13 ?l13 ?c13 ?k13 ?a14 ?l14 ?c14 ?k14 ?a15 ?l15 ?c15 ?k15 ?a16 ?l16 ?c16 ?k16 ?a17 ?l17 ?c17 ?k17 ?a18 ?l18 ?c18 ?k18 ?a19 ?l19 ?c19 ?k19 ?z0 ?z1 ?z2 ?z3 ?z4 ?z5 ?z6 ?z7 ?z8 ?z9 ?z10 ?z11 ?z12 ?g_MOST_WIDTH ?g_FORMS ?l_FORMS ?kF ?lo_F ?eF ?lF0 ?lF1 ?lF2 ?lF3 ?lF4 ?lF5 ?lF6 ?lF7 ?lF8 ?lF9 ?lF10 ?lF11 ?lF12 ?lF13 ?lF14 ?lF15 ?g_MOST_TABLE_WIDTH
    (case a0 => k_is)
    (case l0 => k_is)
    (case c0 => k_is)
    (case k0 => k_is)
    (case a1 => k_is)
    (case l1 => k_is)
    (case c1 => k_is)
    (case k1 => k_is)
    (case a2 => k_is)
    (case l2 => k_is)
    (case c2 => k_is)
    (case k2 => k_is)
    (case a3 => k_is)
    (case l3 => k_is)
    (case c3 => k_is)
    (case k3 => k_is)
    (case a4 => k_is)
    (case l4 => k_is)
    (case c4 => k_is)
    (case k4 => k_is)
    (case a5 => k_is)
    (case l5 => k_is)
    (case c5 => k_is)
    (case k5 => k_is)
    (case a6 => k_is)
    (case l6 => k_is)
    (case c6 => k_is)
    (case k6 => k_is)
    (case a7 => k_is)
    (case l7 => k_is)
    (case c7 => k_is)
    (case k7 => k_is)
    (case a8 => k_is)
    (case l8 => k_is)
    (case c8 => k_is)
    (case k8 => k_is)
    (case a9 => k_is)
    (case l9 => k_is)
    (case c9 => k_is)
    (case k9 => k_is)
    (case a10 => k_is)
    (case l10 => k_is)
    (case c10 => k_is)
    (case k10 => k_is)
    (case a11 => k_is)
    (case l11 => k_is)
    (case c11 => k_is)
    (case k11 => k_is)
    (case a12 => k_is)
    (case l12 => k_is)
    (case c12 => k_is)
    (case k12 => k_is)
    (case a13 => k_is)
    (case l13 => k_is)
    (case c13 => k_is)
    (case k13 => k_is)
    (case a14 => k_is)
    (case l14 => k_is)
    (case c14 => k_is)
    (case k14 => k_is)
    (case a15 => k_is)
    (case l15 => k_is)
    (case c15 => k_is)
    (case k15 => k_is)
    (case a16 => k_is)
    (case l16 => k_is)
    (case c16 => k_is)
    (case k16 => k_is)
    (case a17 => k_is)
    (case l17 => k_is)
    (case c17 => k_is)
    (case k17 => k_is)
    (case a18 => k_is)
    (case l18 => k_is)
    (case c18 => k_is)
    (case k18 => k_is)
    (case a19 => k_is)
    (case l19 => k_is)
    (case c19 => k_is)
    (case k19 => k_is)
    (case z0 => k_is)
    (case z1 => k_is)
    (case z2 => k_is)
    (case z3 => k_is)
    (case z4 => k_is)
    (case z5 => k_is)
    (case z6 => k_is)
    (case z7 => k_is)
    (case z8 => k_is)
    (case z9 => k_is)
    (case z10 => k_is)
    (case z11 => k_is)
    (case z12 => k_is)
    (case g_MOST_WIDTH => k_is)
    (case g_FORMS => k_is)
    (case l_FORMS => k_is)
    (case kF => k_keys)
    (case lo_F => decide)
    (case eF => rfl)
    (case lF0 => k_is)
    (case lF1 => k_is)
    (case lF2 => k_is)
    (case lF3 => k_is)
    (case lF4 => k_is)
    (case lF5 => k_is)
    (case lF6 => k_is)
    (case lF7 => k_is)
    (case lF8 => k_is)
    (case lF9 => k_is)
    (case lF10 => k_is)
    (case lF11 => k_is)
    (case lF12 => k_is)
    (case lF13 => k_is)
    (case lF14 => k_is)
    (case lF15 => k_is)
    (case g_MOST_TABLE_WIDTH => k_is)

